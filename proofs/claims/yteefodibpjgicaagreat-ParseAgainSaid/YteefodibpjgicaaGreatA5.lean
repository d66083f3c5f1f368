/- Texts joined: Ref01, Ref01b, Ref01c. -/
import Derived.BigCall
import Derived.Deep.QuietTactic
import Derived.BigQuiet
import Derived.Deep.DeepCutAuto
import Derived.Test.YteefodibpjgicaaGreatA4
namespace Go.Proofs.YteefodibpjgicaaGreat
open Go.RowKit
set_option maxHeartbeats 1000000 in
theorem ref01Follows (c : Int) (w : World) (h0 : 0 ≤ c) (h1 : c ≤ 255) :
    Calls Tryz.prog 70 #[.int .u8 c] w fun e w' => e = .returned (.bool (decide (128 ≤ c ∧ c < 192))) ∧ w' = w:=by
  by_cases h : 128 ≤ c ∧ c < 192
  · rw [decide_eq_true h]
    obtain ⟨h2,h3⟩:=h
    go_enter Tryz.func70,Tryz.ntmps70
    go_wp2
    go_ret
    exact ⟨rfl,rfl⟩
  · rw [decide_eq_false h]
    have h2 : c < 128 ∨ 192 ≤ c:=by omega
    rcases h2 with h2 | h2
    · have hb : decide (128 ≤ c) = false:=decide_eq_false (by omega)
      go_enter Tryz.func70,Tryz.ntmps70
      go_wp2
      go_ret
      exact ⟨rfl,rfl⟩
    · have hb : decide (c < 192) = false:=decide_eq_false (by omega)
      go_enter Tryz.func70,Tryz.ntmps70
      go_wp2
      go_ret
      exact ⟨rfl,rfl⟩
set_option maxHeartbeats 2000000 in
set_option maxRecDepth 100000 in
theorem ref01One (v : Value) (l : List UInt8) (w : World) (hs : Sl w v (u8s l)) (hne : l ≠ []) :
    Calls Tryz.prog 44 #[v] w fun e w' => e = .returned (.tuple #[.int .i32 (M1.dec l).1,.int .i64 (M1.dec l).2]) ∧ w' = w:=by
  obtain ⟨a,cap,rfl,h2,h3,h4,h5⟩:=hs
  have hpos:=List.length_pos_iff.2 hne
  obtain ⟨b,off,rfl,h7⟩:=h5 (ne_of_lt (k:=0) (by simpa using hpos))
  rw [u8s_length] at *
  have hc : ∀ j,j < l.length → w.cell? ⟨b,off + j,none⟩ = some (.int .u8 (M1.at_ l j : Int)):=by
    intro j hj
    rw [h7 j (by simpa using hj)]
    simp [u8s,Lib.byteCells,M1.at_,List.getD_eq_getElem?_getD,List.getElem?_eq_getElem hj]
  have hc0:=hc 0 hpos
  rw [Nat.add_zero] at hc0
  have hb0:=M1.at_lt l 0
  clear h5 h7 h4
  by_cases hlow : M1.at_ l 0 < 128
  · rw [M1.dec_low l hlow]
    clear hc
    generalize M1.at_ l 0 = c at *
    go_enter Tryz.func44,Tryz.ntmps44
    go_wp2
    go_ret2
    exact ⟨rfl,rfl⟩
  by_cases hnone : M1.at_ l 0 < 192 ∨ 248 ≤ M1.at_ l 0
  · rw [M1.dec_none l (by omega) hnone]
    clear hc
    generalize M1.at_ l 0 = c at *
    rcases hnone with hnone | hnone
    all_goals
      go_enter Tryz.func44,Tryz.ntmps44
      go_wp2
      go_ret2
      exact ⟨rfl,rfl⟩
  have hcls : (192 ≤ M1.at_ l 0 ∧ M1.at_ l 0 < 224) ∨ (224 ≤ M1.at_ l 0 ∧ M1.at_ l 0 < 240) ∨ (240 ≤ M1.at_ l 0 ∧ M1.at_ l 0 < 248):=by omega
  go_enter Tryz.func44,Tryz.ntmps44
  go_upto_if 23 with fail
  go_cut [4,5,6,7] (fun _ s5 s6 s7 wx => wx = w ∧ ∃ n v least : Nat,s5 = .int .i64 n ∧ s6 = .int .i64 v ∧ s7 = .int .i64 least ∧ M1.Cls (M1.at_ l 0) n v least)
  case first =>
    clear hc
    rcases hcls with ⟨k1,k2⟩ | ⟨k1,k2⟩ | ⟨k1,k2⟩
    · go_wp2
      go_meet
      exact ⟨rfl,2,M1.at_ l 0 - 192,128,rfl,by rw [Int.ofNat_sub k1]; rfl,rfl,by unfold M1.Cls; omega⟩
    · go_wp2
      go_meet
      exact ⟨rfl,3,M1.at_ l 0 - 224,2048,rfl,by rw [Int.ofNat_sub k1]; rfl,rfl,by unfold M1.Cls; omega⟩
    · go_wp2
      go_meet
      exact ⟨rfl,4,M1.at_ l 0 - 240,65536,rfl,by rw [Int.ofNat_sub k1]; rfl,rfl,by unfold M1.Cls; omega⟩
  case rest =>
    obtain ⟨rfl,n,v,least,rfl,rfl,rfl,hC⟩:=hcut
    have hn : 2 ≤ n ∧ n ≤ 4 ∧ v < 32:=by unfold M1.Cls at hC; omega
    clear hcls hnone hlow hc0
    by_cases hsh : l.length < n
    · have hd:=Lib.hid (M1.dec_short l hC hsh)
      go_wp2
      go_ret2
      exact ⟨by rw [hd.out]; rfl,rfl⟩
    go_wp2
    go_loop [6,8] (fun s6 i => ∃ k : Nat,1 ≤ k ∧ k ≤ n ∧ i = .int .i64 k ∧ s6 = .int .i64 (M1.vv l v k) ∧ Hid (∀ j,1 ≤ j → j < k → M1.foll (M1.at_ l j)) ∧ Hid ((k = 1 → M1.vv l v k < 32) ∧ (k = 2 → M1.vv l v k < 2048) ∧ (k = 3 → M1.vv l v k < 131072) ∧ (k = 4 → M1.vv l v k < 8388608))) (fun _ i => n - (intOf i).toNat)
    case atStart => exact ⟨1,by omega,by omega,rfl,rfl,fun j _ _ => by omega,⟨fun _ => hn.2.2,by omega,by omega,by omega⟩⟩
    case round =>
      obtain ⟨k,hk1,hk2,rfl,rfl,hF,hV⟩:=hrel
      by_cases hlt : k < n
      · have hck:=hc k (by omega)
        have hak:=M1.at_lt l k
        have hvb : M1.vv l v k < 131072:=by have:=hV.out; omega
        by_cases hfo : M1.foll (M1.at_ l k)
        · have hb : decide (128 ≤ (M1.at_ l k : Int) ∧ (M1.at_ l k : Int) < 192) = true:=decide_eq_true (by unfold M1.foll at hfo; omega)
          have hF2 : Hid (∀ j,1 ≤ j → j < k + 1 → M1.foll (M1.at_ l j)):=fun j h1 h2 => by
            by_cases e : j = k
            · rw [e]; exact hfo
            · exact hF.out j h1 (by omega)
          have hfo2 : 128 ≤ M1.at_ l k ∧ M1.at_ l k < 192:=hfo
          have hvs : Hid (M1.vv l v (k + 1) = 64 * M1.vv l v k + M1.at_ l k - 128):=by
            obtain ⟨k',rfl⟩ : ∃ k',k = k' + 1:=⟨k - 1,by omega⟩
            exact rfl
          clear hc hfo
          go_wp2_with (go_at_call 70; refine (ref01Follows _ _ (by omega) (by omega)).mono ?_; rintro e w2 ⟨rfl,rfl⟩)
          go_round
          case rel =>
            refine ⟨k + 1,by omega,by omega,by go_num,?_,hF2,?_⟩
            · rw [hvs.out]; congr 1; omega
            · show _ ∧ _ ∧ _ ∧ _
              have:=hV.out
              have:=hvs.out
              refine ⟨?_,?_,?_,?_⟩ <;> intro _ <;> omega
          case measure => simp [intOf]; omega
        · have hb : decide (128 ≤ (M1.at_ l k : Int) ∧ (M1.at_ l k : Int) < 192) = false:=decide_eq_false (by unfold M1.foll at hfo; omega)
          have hd:=Lib.hid (M1.dec_stop l hC k hk1 hlt hfo)
          clear hc hfo
          go_wp2_with (go_at_call 70; refine (ref01Follows _ _ (by omega) (by omega)).mono ?_; rintro e w2 ⟨rfl,rfl⟩)
          go_ret2
          exact ⟨by rw [hd.out]; rfl,rfl⟩
      · obtain rfl : k = n:=by omega
        have hd:=Lib.hid (M1.dec_full l hC (by omega) hF.out)
        have hvb : M1.vv l v k < 8388608:=by have:=hV.out; omega
        clear hc hV hF
        by_cases hbad : M1.badv (M1.vv l v k) least
        · have hd2:=Lib.hid (hd.out.trans (if_pos hbad))
          clear hd
          unfold M1.badv at hbad
          generalize M1.vv l v k = x at *
          have hcase : x < least ∨ (least ≤ x ∧ 1114111 < x) ∨ (least ≤ x ∧ 55296 ≤ x ∧ x ≤ 57343):=by omega
          rcases hcase with c1 | ⟨c1,c2⟩ | ⟨c1,c2,c3⟩
          all_goals
            clear hbad
            go_wp2
            go_ret2
            exact ⟨by rw [hd2.out]; rfl,rfl⟩
        · have hd2:=Lib.hid (hd.out.trans (if_neg hbad))
          clear hd
          unfold M1.badv at hbad
          generalize M1.vv l v k = x at *
          have c1 : least ≤ x:=by omega
          have c2 : x ≤ 1114111:=by omega
          have hcase : x < 55296 ∨ 57343 < x:=by omega
          rcases hcase with c3 | c3
          · have hb : decide (55296 ≤ (x : Int)) = false:=decide_eq_false (by omega)
            have hb2 : decide (55296 ≤ x) = false:=decide_eq_false (by omega)
            clear hbad
            go_wp2
            go_ret2
            exact ⟨by rw [hd2.out]; rfl,rfl⟩
          · have hb : decide ((x : Int) ≤ 57343) = false:=decide_eq_false (by omega)
            have hb2 : decide (x ≤ 57343) = false:=decide_eq_false (by omega)
            clear hbad
            go_wp2
            go_ret2
            exact ⟨by rw [hd2.out]; rfl,rfl⟩
end Go.Proofs.YteefodibpjgicaaGreat

namespace Go.Proofs.YteefodibpjgicaaGreat
open Go.RowKit
theorem info32' : (Tryz.prog.info? 21).map (fun i => (i.zero,i.size,i.bytes)) = some (some (.int .i32 0),1,4):=by kernel_rfl
theorem drop_ne' {l : List UInt8} {k : Nat} (h : k < l.length) : l.drop k ≠ []:=ne_of_lt (k:=0) (by rw [List.length_drop]; omega)
set_option maxHeartbeats 1000000 in
set_option maxRecDepth 100000 in
theorem ref01Runes (v : Value) (l : List UInt8) (w : World) (hs : Sl w v (u8s l)) (hl : l.length ≤ 1073741824) :
    Calls Tryz.prog 31 #[v] w fun e w' => ∃ v',e = .returned v' ∧ Sl w' v' (i32s (M1.runes l)) ∧ Below w.heap.size w w':=by
  have hs0:=hs
  obtain ⟨a,cap,rfl,h2,h3,h4,h5⟩:=hs
  rw [u8s_length] at *
  go_enter Tryz.func31,Tryz.ntmps31
  go_wp2
  go_loopw [3,4] (fun v3 i wr => ∃ (pos : Nat) (acc : List Int),i = .int .i64 pos ∧ pos ≤ l.length ∧ wr.ownsRow w.heap.size 21 1 v3 acc.length (i32s acc) ∧ Below w.heap.size w wr ∧ Hid (M1.runes l = acc ++ M1.runes (l.drop pos)) ∧ acc.length ≤ pos) (fun _ i _ => l.length - (intOf i).toNat)
  case atStart => exact ⟨0,[],rfl,by omega,World.ownsRow_nil _ _ _ _,Below.refl _ _,rfl,by simp⟩
  case round =>
    obtain ⟨pos,acc,rfl,hpl,hown,hbw,hacc,hal⟩:=hrel
    by_cases hp : pos < l.length
    · obtain ⟨b,off,rfl,h7⟩:=h5 (ne_of_lt (k:=pos) (by simpa using hp))
      have hne:=drop_ne' hp
      have hd:=(hs0.below hbw).drop pos (by omega)
      have hO:=ref01One _ (l.drop pos) wr (by rw [show u8s (l.drop pos) = (u8s l).drop pos by simp [u8s,Lib.byteCells,List.map_drop]]; exact hd) hne
      have hst0:=M1.runes_step _ hne
      have hw1:=M1.dec_pos _ hne
      have hw2:=M1.dec_le _ hne
      have hlt:=M1.dec_lt (l.drop pos)
      rw [List.drop_drop] at hst0
      rw [List.length_drop] at hw2
      generalize (M1.dec (l.drop pos)).1 = r at *
      generalize (M1.dec (l.drop pos)).2 = wd at *
      have hst:=Lib.hid hst0
      have hO:=Lib.hid hO
      clear hst0 h5 h7 hd hs0 h4
      go_wp2_with (first | (go_at_call 44; refine hO.out.mono ?_; rintro e w2 ⟨rfl,rfl⟩) | (at_builtin; refine wpList_app1 _ _ rfl _ _ 48 21 rfl w.heap.size Tryz.underlying48 info32' rfl _ _ _ rfl hown rfl rfl ?c1 ?c2 ?c3 ?_))
      case c1 => omega
      case c2 => omega
      case c3 => exact hbw.size
      intro v' w2 hown2 hgrow
      go_wp2
      go_roundw
      case rel =>
        refine ⟨pos + wd,acc ++ [(r : Int)],by go_num,by omega,?_,below_row hbw hown hgrow hbw.size (Nat.le_refl _),?_,by simp; omega⟩
        · rw [i32s_append,List.length_append]; exact hown2
        · show _ = _
          rw [hacc.out,hst.out]; simp
      case measure => simp [intOf]; omega
    · clear h5 h4 hs0
      have h:=hacc.out
      rw [List.drop_of_length_le (by omega),M1.runes_nil,List.append_nil] at h
      have h:=Lib.hid h
      go_wp2
      go_ret
      exact ⟨_,rfl,by rw [h.out]; exact Sl.own hown,hbw⟩
theorem Sl.fresh (w : World) (e : TypeId) (xs : List Value) (n : Nat) (hn : xs.length = n) (h : n ≤ 4) : Sl (w.alloc (.cells xs.toArray e)) (.slice (some ⟨w.heap.size,0,none⟩) n n) xs:=by
  subst hn
  refine ⟨_,xs.length,rfl,Nat.le_refl _,by omega,(fun h => by cases h),fun _ => ⟨_,0,rfl,fun j hj => ?_⟩⟩
  rw [Nat.zero_add,World.cell?_alloc_at _ _ _ _ rfl]
  simp [hj]
set_option maxHeartbeats 2000000 in
set_option maxRecDepth 100000 in
theorem ref01Bytes (r : Int) (w : World) (h0 : -2147483648 ≤ r) (h1 : r ≤ 2147483647) :
    Calls Tryz.prog 45 #[.int .i32 r] w fun e w' => ∃ v',e = .returned v' ∧ Sl w' v' (Lib.runeCells r) ∧ Below w.heap.size w w':=by
  have hfr:=fun xs n hn h => Sl.fresh w 5 xs n hn h
  have hbl:=fun o => (Below.refl w.heap.size w).alloc (Nat.le_refl _) o
  have hfr:=Lib.hid hfr
  have hbl:=Lib.hid hbl
  by_cases c1 : 0 ≤ r ∧ r ≤ 127
  · obtain ⟨c1,c2⟩:=c1
    have e : Lib.runeCells r = [.int .u8 r]:=by simp [Lib.runeCells,Lib.encodeRuneZ_one c1 c2]
    rw [e]
    clear e
    go_enter Tryz.func45,Tryz.ntmps45
    go_wp2
    go_ret
    exact ⟨_,rfl,hfr.out _ 1 rfl (by omega),hbl.out _⟩
  by_cases c2 : 128 ≤ r ∧ r ≤ 2047
  · obtain ⟨c2,c3⟩:=c2
    have e : Lib.runeCells r = [.int .u8 (192 + r / 64),.int .u8 (128 + r % 64)]:=by simp [Lib.runeCells,Lib.encodeRuneZ_two c2 c3]
    rw [e]
    clear e
    go_enter Tryz.func45,Tryz.ntmps45
    go_wp2
    go_ret
    exact ⟨_,rfl,hfr.out _ 2 rfl (by omega),hbl.out _⟩
  by_cases c3 : 2048 ≤ r ∧ r < 55296
  · obtain ⟨c3,c4⟩:=c3
    have e : Lib.runeCells r = [.int .u8 (224 + r / 4096),.int .u8 (128 + r / 64 % 64),.int .u8 (128 + r % 64)]:=by simp [Lib.runeCells,Lib.encodeRuneZ_three (r:=r) (by omega)]
    rw [e]
    clear e
    go_enter Tryz.func45,Tryz.ntmps45
    go_wp2
    go_ret
    exact ⟨_,rfl,hfr.out _ 3 rfl (by omega),hbl.out _⟩
  by_cases c4 : 57343 < r ∧ r ≤ 65535
  · obtain ⟨c4,c5⟩:=c4
    have e : Lib.runeCells r = [.int .u8 (224 + r / 4096),.int .u8 (128 + r / 64 % 64),.int .u8 (128 + r % 64)]:=by simp [Lib.runeCells,Lib.encodeRuneZ_three (r:=r) (by omega)]
    have hb : decide (r ≤ 57343) = false:=decide_eq_false (by omega)
    rw [e]
    clear e
    go_enter Tryz.func45,Tryz.ntmps45
    go_wp2
    go_ret
    exact ⟨_,rfl,hfr.out _ 3 rfl (by omega),hbl.out _⟩
  by_cases c5 : 65536 ≤ r ∧ r ≤ 1114111
  · obtain ⟨c5,c6⟩:=c5
    have e : Lib.runeCells r = [.int .u8 (240 + r / 262144),.int .u8 (128 + r / 4096 % 64),.int .u8 (128 + r / 64 % 64),.int .u8 (128 + r % 64)]:=by simp [Lib.runeCells,Lib.encodeRuneZ_four c5 c6]
    have hb : decide (r ≤ 57343) = false:=decide_eq_false (by omega)
    rw [e]
    clear e
    go_enter Tryz.func45,Tryz.ntmps45
    go_wp2
    go_ret
    exact ⟨_,rfl,hfr.out _ 4 rfl (by omega),hbl.out _⟩
  have e : Lib.runeCells r = [.int .u8 239,.int .u8 191,.int .u8 189]:=by simp [Lib.runeCells,Lib.encodeRuneZ_bad (r:=r) (by omega)]
  rw [e]
  clear e
  have hc : r < 0 ∨ 1114111 < r ∨ (55296 ≤ r ∧ r ≤ 57343):=by omega
  clear c1 c2 c3 c4 c5
  rcases hc with hc | hc | ⟨hc,hc2⟩
  all_goals
    go_enter Tryz.func45,Tryz.ntmps45
    go_wp2
    go_ret
    exact ⟨_,rfl,hfr.out _ 3 rfl (by omega),hbl.out _⟩
theorem runeCells_one (r : Int) : ∀ u ∈ Lib.runeCells r,u.oneCell' = true:=by
  intro u hu
  simp only [Lib.runeCells,List.mem_map] at hu
  obtain ⟨x,_,rfl⟩:=hu
  rfl
set_option maxHeartbeats 1000000 in
set_option maxRecDepth 100000 in
theorem ref01Text (v : Value) (rs : List Int) (w : World) (hs : Sl w v (i32s rs)) (hr : ∀ r ∈ rs,-2147483648 ≤ r ∧ r ≤ 2147483647) (hl : rs.length ≤ 1073741824) :
    Calls Tryz.prog 32 #[v] w fun e w' => e = .returned (.string ⟨(M1.text rs).toArray⟩) ∧ Below w.heap.size w w':=by
  obtain ⟨a,cap,rfl,h2,h3,h4,h5⟩:=hs
  rw [i32s_length] at *
  go_enter Tryz.func32,Tryz.ntmps32
  go_wp2
  go_loopw [3,4] (fun v3 i wr => ∃ k : Nat,i = .int .i64 k ∧ k ≤ rs.length ∧ wr.ownsRow w.heap.size 5 1 v3 (M1.text (rs.take k)).length (u8s (M1.text (rs.take k))) ∧ Below w.heap.size w wr) (fun _ i _ => rs.length - (intOf i).toNat)
  case atStart => exact ⟨0,rfl,by omega,World.ownsRow_nil _ _ _ _,Below.refl _ _⟩
  case round =>
    obtain ⟨k,rfl,hk,hown,hbw⟩:=hrel
    have htl:=M1.text_len_le (rs.take k)
    have htk : (rs.take k).length ≤ k:=List.length_take_le _ _
    by_cases hlt : k < rs.length
    · obtain ⟨b,off,rfl,h7⟩:=h5 (ne_of_lt (k:=k) (by simpa using hlt))
      have h8:=h7 k (by simpa using hlt)
      have h9:=World.block_lt_of_cell? w _ h8
      have hc : wr.cell? ⟨b,off + k,none⟩ = some (.int .i32 rs[k]):=by
        rw [hbw.cell h9,h8]; simp [i32s]
      have hrk:=hr rs[k] (List.getElem_mem hlt)
      have htk1:=Lib.hid (List.take_succ_eq_append_getElem hlt)
      have hl4:=Lib.runeCells_le rs[k]
      have hco:=Lib.hid (runeCells_one rs[k])
      clear h5 h7 h8
      generalize rs[k] = r at *
      go_wp2_with fail
      refine (ref01Bytes r _ hrk.1 hrk.2).mono ?_
      rintro e w1 ⟨y,rfl,hy,hb1⟩
      have hown1:=owns_below hown hb1
      have hs1:=hb1.size
      have hs2:=hbw.size
      go_wp2_with (at_builtin; refine wpList_appSl _ rfl _ _ 22 5 rfl w.heap.size Tryz.underlying22 infoU8 rfl _ _ _ rfl hown1 _ _ rfl hy hco.out (by omega) (by omega) (by have:=hbw.size; omega) ?_)
      intro v' w2 hown2 hgrow
      go_wp2
      go_roundw
      case rel =>
        have e : u8s (M1.text [r]) = Lib.runeCells r:=by
          rw [show M1.text [r] = Lib.encodeRune r by simp [M1.text]]; exact Lib.byteCells_encodeRune r
        have e2 : (M1.text [r]).length = (Lib.runeCells r).length:=by rw [← e,u8s_length]
        refine ⟨k + 1,by go_num,by omega,?_,below_row (hbw.trans (hb1.mono hs2)) hown1 hgrow (by omega) (Nat.le_refl _)⟩
        rw [htk1.out,M1.text_append,u8s_append,e,List.length_append,e2]
        exact hown2
      case measure => simp [intOf]; omega
    · clear h5 h4
      have hcv:=(Sl.own hown).toString 22 9 5 Tryz.underlying22 Tryz.underlying5 Tryz.underlying9
      go_wp2
      go_ret
      rw [List.take_of_length_le (by omega)]
      exact ⟨rfl,hbw⟩
end Go.Proofs.YteefodibpjgicaaGreat

namespace Go.Proofs.YteefodibpjgicaaGreat
open Go.RowKit
set_option maxHeartbeats 2000000 in
set_option maxRecDepth 100000 in
theorem ref01Right (v : Value) (l : List UInt8) (w : World) (hs : Sl w v (u8s l)) (hl : l.length ≤ 268435456) :
    Calls Tryz.prog 14 #[v] w fun e w' => e = .returned (.string ⟨(M1.right l).toArray⟩) ∧ Below w.heap.size w w':=by
  have hrl:=M1.runes_len l.length l (Nat.le_refl _)
  have hml:=M1.mk_len (M1.runes l) false
  have hok:=Lib.hid (M1.right_ok l)
  go_enter Tryz.func14,Tryz.ntmps14
  go_wp2_with fail
  refine (ref01Runes v l w hs (by omega)).mono ?_
  rintro e w0 ⟨v0,rfl,hs0,hb0⟩
  have hr : Hid (M1.right l = M1.text (M1.mk false (M1.runes l))):=rfl
  generalize M1.runes l = rs at *
  have hs00:=hs0
  obtain ⟨a,cap,rfl,h2,h3,h4,h5⟩:=hs0
  rw [i32s_length] at *
  have hz0:=hb0.size
  go_wp2
  go_loopw [4,5] (fun v4 i wr => ∃ (k : Nat) (acc : List Int),i = .int .i64 k ∧ k ≤ rs.length ∧ acc.length ≤ k ∧ wr.ownsRow w0.heap.size 21 1 v4 acc.length (i32s acc) ∧ Below w0.heap.size w0 wr ∧ Hid (M1.mk false rs = acc ++ M1.mk (M1.prev rs k) (rs.drop k))) (fun _ i _ => rs.length - (intOf i).toNat)
  case atStart => exact ⟨0,[],rfl,by omega,by simp,World.ownsRow_nil _ _ _ _,Below.refl _ _,rfl⟩
  case round =>
    obtain ⟨k,acc,rfl,hk,hak,hown,hbw,hacc⟩:=hrel
    by_cases hlt : k < rs.length
    · obtain ⟨b,off,rfl,h7⟩:=h5 (ne_of_lt (k:=k) (by simpa using hlt))
      have hcell : ∀ j,(hj : j < rs.length) → wr.cell? ⟨b,off + j,none⟩ = some (.int .i32 rs[j]):=fun j hj => by
        have h8:=h7 j (by simpa using hj)
        rw [hbw.cell (World.block_lt_of_cell? w0 _ h8),h8]; simp [i32s]
      have hc:=hcell k hlt
      have hd:=M1.mk_drop rs k hlt
      have hacc1:=Lib.hid (hacc.out.trans (congrArg (acc ++ ·) hd))
      have hx:=Lib.hid (rfl : M1.piece rs[k] (M1.prev rs k) = M1.piece rs[k] (M1.prev rs k))
      have fin0 : ∀ (y : Int) (w2 : World) (v2 : Value),M1.piece rs[k] (M1.prev rs k) = [y] → w2.ownsRow w0.heap.size 21 1 v2 (acc.length + 1) (i32s acc ++ [.int .i32 y]) → wr.grownBy w2 u4.ownBlock →
          ∃ (k' : Nat) (acc' : List Int),Value.int .i64 ((k : Int) + 1) = .int .i64 k' ∧ k' ≤ rs.length ∧ acc'.length ≤ k' ∧ w2.ownsRow w0.heap.size 21 1 v2 acc'.length (i32s acc') ∧ Below w0.heap.size w0 w2 ∧ Hid (M1.mk false rs = acc' ++ M1.mk (M1.prev rs k') (rs.drop k')):=by
        intro y w2 v2 hp ho hg
        refine ⟨k + 1,acc ++ [y],by go_num,by omega,by simp; omega,?_,below_row hbw hown hg hbw.size (Nat.le_refl _),?_⟩
        · rw [i32s_append,List.length_append]; exact ho
        · show _ = _
          rw [hacc1.out,hp,List.append_assoc]
      have fin:=Lib.hid fin0
      clear h5 h7 hd h4 hacc fin0 hx
      have hbz:=hbw.size
      by_cases h13 : rs[k] = 13
      · have hp : M1.piece rs[k] (M1.prev rs k) = [10]:=by rw [M1.piece,if_pos h13]
        have hp:=Lib.hid hp
        rw [h13] at hc
        clear h13 hcell
        go_wp2_with (at_builtin; refine wpList_app1 _ _ rfl _ _ 48 21 rfl w0.heap.size Tryz.underlying48 info32' rfl _ _ _ rfl hown rfl rfl (by omega) (by omega) (by have:=hbw.size; omega) ?_)
        intro v' w2 hown2 hgrow
        go_wp2
        go_roundw
        case rel => exact fin.out _ _ _ hp.out hown2 hgrow
        case measure => simp [intOf]; omega
      by_cases h10 : rs[k] = 10
      · rw [h10] at hc
        by_cases hk0 : k = 0
        · subst hk0
          have hp : M1.piece rs[0] (M1.prev rs 0) = [10]:=by rw [M1.piece,if_neg h13,if_neg (by simp [M1.prev]),if_neg (by omega),h10]
          have hp:=Lib.hid hp
          have hak' : acc.length ≤ 1:=by omega
          have hc : wr.cell? ⟨b,off,none⟩ = some (.int .i32 10):=hc
          clear h13 h10 hcell hak
          go_wp2_with (at_builtin; refine wpList_app1 _ _ rfl _ _ 48 21 rfl w0.heap.size Tryz.underlying48 info32' rfl _ _ _ rfl hown rfl rfl (by omega) (by omega) (by have:=hbw.size; omega) ?_)
          intro v' w2 hown2 hgrow
          go_wp2
          go_roundw
          case rel => exact fin.out _ _ _ hp.out hown2 hgrow
          case measure => simp [intOf]; omega
        · obtain ⟨j,rfl⟩ : ∃ j,k = j + 1:=⟨k - 1,by omega⟩
          have hcj:=hcell j (by omega)
          by_cases hj : rs[j]'(by omega) = 13
          · have hp : M1.piece rs[j + 1] (M1.prev rs (j + 1)) = []:=by
              have hpv : M1.prev rs (j + 1) = true:=by simp [M1.prev,List.getD_eq_getElem?_getD,List.getElem?_eq_getElem (show j < rs.length by omega),hj]
              rw [M1.piece,if_neg h13,if_pos ⟨h10,hpv⟩]
            have hr2 : Hid (M1.mk false rs = acc ++ M1.mk (M1.prev rs (j + 1 + 1)) (rs.drop (j + 1 + 1))):=by
              show _ = _
              rw [hacc1.out,hp,List.nil_append]
            rw [hj] at hcj
            clear h13 h10 hcell hj fin
            go_wp2
            go_roundw
            case rel => exact ⟨j + 1 + 1,acc,by go_num,by omega,by omega,hown,hbw,hr2⟩
            case measure => simp [intOf]; omega
          · have hp : M1.piece rs[j + 1] (M1.prev rs (j + 1)) = [10]:=by
              rw [M1.piece,if_neg h13,if_neg ?_,if_neg (by omega),h10]
              intro h
              have h2:=h.2
              simp [M1.prev,List.getD_eq_getElem?_getD,List.getElem?_eq_getElem (show j < rs.length by omega)] at h2
              exact hj h2
            have hp:=Lib.hid hp
            generalize rs[j]'(by omega) = y at *
            have hyb : (y == 13) = false:=by simpa using hj
            clear h13 h10 hcell hj
            go_wp2_with (at_builtin; refine wpList_app1 _ _ rfl _ _ 48 21 rfl w0.heap.size Tryz.underlying48 info32' rfl _ _ _ rfl hown rfl rfl (by omega) (by omega) (by have:=hbw.size; omega) ?_)
            intro v' w2 hown2 hgrow
            go_wp2
            go_roundw
            case rel => exact fin.out _ _ _ hp.out hown2 hgrow
            case measure => simp [intOf]; omega
      by_cases h0 : rs[k] = 0
      · have hp : M1.piece rs[k] (M1.prev rs k) = [65533]:=by rw [M1.piece,if_neg h13,if_neg (fun h => h10 h.1),if_pos h0]
        have hp:=Lib.hid hp
        rw [h0] at hc
        clear h13 h10 hcell
        go_wp2_with (at_builtin; refine wpList_app1 _ _ rfl _ _ 48 21 rfl w0.heap.size Tryz.underlying48 info32' rfl _ _ _ rfl hown rfl rfl (by omega) (by omega) (by have:=hbw.size; omega) ?_)
        intro v' w2 hown2 hgrow
        go_wp2
        go_roundw
        case rel => exact fin.out _ _ _ hp.out hown2 hgrow
        case measure => simp [intOf]; omega
      have hp : M1.piece rs[k] (M1.prev rs k) = [rs[k]]:=by rw [M1.piece,if_neg h13,if_neg (fun h => h10 h.1),if_neg h0]
      have hp:=Lib.hid hp
      generalize rs[k] = x at *
      have h13b : (x == 13) = false:=by simpa using h13
      have h10b : (x == 10) = false:=by simpa using h10
      have h0b : (x == 0) = false:=by simpa using h0
      clear h13 h10 h0 hcell
      go_wp2_with (at_builtin; refine wpList_app1 _ _ rfl _ _ 48 21 rfl w0.heap.size Tryz.underlying48 info32' rfl _ _ _ rfl hown rfl rfl (by omega) (by omega) (by have:=hbw.size; omega) ?_)
      intro v' w2 hown2 hgrow
      go_wp2
      go_roundw
      case rel => exact fin.out _ _ _ hp.out hown2 hgrow
      case measure => simp [intOf]; omega
    · clear h5 h4
      have h:=hacc.out
      rw [List.drop_of_length_le (by omega),M1.mk,List.append_nil] at h
      go_wp2_with fail
      refine (ref01Text _ acc _ (Sl.own hown) ?_ (by omega)).mono ?_
      · intro r hr
        rw [← h] at hr
        have:=(hok.out r hr).1
        unfold M1.okRune at this
        omega
      rintro e w1 ⟨rfl,hb1⟩
      go_wp2
      go_ret
      rw [hr.out,h]
      exact ⟨rfl,(hb0.trans (hbw.mono hz0)).trans (hb1.mono (by have:=hbw.size; omega))⟩
set_option maxHeartbeats 1000000 in
set_option maxRecDepth 100000 in
theorem ref01Is (s : ByteArray) (w : World) (hs : s.size ≤ 268435456) :
    Calls Tryz.prog 52 #[.string s] w fun e w' => e = .returned (.bool (M1.isB s.data.toList)) ∧ Below w.heap.size w w':=by
  have hcv:=Lib.run_convert_string_bytes (P:=Tryz.prog) w 9 22 5 s Tryz.underlying9 Tryz.underlying22 Tryz.underlying5
  have hS:=Sl.bytes w 5 s (by omega)
  have hB:=below_bytesWorld w 5 s
  generalize grownCap w s.size 0 5 = cap at *
  generalize Lib.bytesWorld w 5 s = w0 at *
  have hz:=hB.size
  have hi:=M1.isB_right_iff s.data.toList
  go_enter Tryz.func52,Tryz.ntmps52
  go_wp2_with fail
  refine (ref01Right _ s.data.toList w0 hS (show s.data.toList.length ≤ 268435456 from hs)).mono ?_
  rintro e w1 ⟨rfl,hb1⟩
  go_wp2
  go_ret
  refine ⟨?_,hB.trans (hb1.mono hz)⟩
  have e : (M1.right s.data.toList == s.data.toList) = M1.isB s.data.toList:=by
    rw [Bool.eq_iff_iff,beq_iff_eq]; exact hi.symm
  rw [← e]
  simp [ByteArray.toList_eq]
set_option maxHeartbeats 1000000 in
set_option maxRecDepth 100000 in
theorem ref01Fold (s : ByteArray) (w : World) (hs : s.size ≤ 1073741824) :
    Calls Tryz.prog 90 #[.string s] w fun e w' => e = .returned (.string ⟨(M1.fold s.data.toList).toArray⟩) ∧ Below w.heap.size w w':=by
  go_enter Tryz.func90,Tryz.ntmps90
  go_wp2
  go_loopw [3,4] (fun v3 i wr => ∃ (k : Nat),i = .int .i64 k ∧ k ≤ s.size ∧ wr.ownsRow w.heap.size 5 1 v3 k (u8s (M1.fold (s.data.toList.take k))) ∧ Below w.heap.size w wr) (fun _ i _ => s.size - (intOf i).toNat)
  case atStart => exact ⟨0,rfl,by omega,World.ownsRow_nil _ _ _ _,Below.refl _ _⟩
  case round =>
    obtain ⟨k,rfl,hk,hown,hbw⟩:=hrel
    by_cases hlt : k < s.size
    · have hls : k < s.data.toList.length:=hlt
      have hbz:=hbw.size
      have e1:=Lib.hid (List.take_succ_eq_append_getElem (l:=s.data.toList) hls)
      have hsm:=M1.small_nat s[k]
      have hcl:=s[k].toNat_lt
      have hcl : s[k].toNat < 256:=hcl
      by_cases hup : 65 ≤ s[k].toNat ∧ s[k].toNat ≤ 90
      · rw [if_pos hup] at hsm
        have hsm:=Lib.hid hsm
        obtain ⟨h1,h2⟩:=hup
        go_wp2_with (at_builtin; refine wpList_app1 _ _ rfl _ _ 22 5 rfl w.heap.size Tryz.underlying22 infoU8 rfl _ _ _ rfl hown rfl rfl (by omega) (by omega) (by have:=hbw.size; omega) ?_)
        intro v' w2 hown2 hgrow
        go_wp2
        go_roundw
        case rel =>
          refine ⟨k + 1,by go_num,by omega,?_,below_row hbw hown hgrow hbz (Nat.le_refl _)⟩
          rw [e1.out,M1.fold,List.map_append,u8s_append]
          have e3 : u8s (List.map M1.small [s.data.toList[k]]) = [.int .u8 ((s[k].toNat : Int) + 32)]:=by
            show [Value.int .u8 ((M1.small s[k]).toNat : Int)] = _
            rw [hsm.out]; rfl
          rw [e3]; exact hown2
        case measure => simp [intOf]; omega
      · rw [if_neg hup] at hsm
        have hsm:=Lib.hid hsm
        have hup2 : s[k].toNat < 65 ∨ 90 < s[k].toNat:=by omega
        clear hup
        have hadd : ∀ v2 w2,World.ownsRow w2 w.heap.size 5 1 v2 (k + 1) (u8s (M1.fold (s.data.toList.take k)) ++ [.int .u8 (s[k].toNat : Int)]) → World.ownsRow w2 w.heap.size 5 1 v2 (k + 1) (u8s (M1.fold (s.data.toList.take (k + 1)))):=by
          intro v2 w2 h
          rw [e1.out,M1.fold,List.map_append,u8s_append]
          have e3 : u8s (List.map M1.small [s.data.toList[k]]) = [.int .u8 (s[k].toNat : Int)]:=by
            show [Value.int .u8 ((M1.small s[k]).toNat : Int)] = _
            rw [hsm.out]
          rw [e3]; exact h
        have hadd:=Lib.hid hadd
        rcases hup2 with hup | hup
        · go_wp2_with (at_builtin; refine wpList_app1 _ _ rfl _ _ 22 5 rfl w.heap.size Tryz.underlying22 infoU8 rfl _ _ _ rfl hown rfl rfl (by omega) (by omega) (by have:=hbw.size; omega) ?_)
          intro v' w2 hown2 hgrow
          go_wp2
          go_roundw
          case rel => exact ⟨k + 1,by go_num,by omega,hadd.out _ _ hown2,below_row hbw hown hgrow hbz (Nat.le_refl _)⟩
          case measure => simp [intOf]; omega
        · go_wp2_with (at_builtin; refine wpList_app1 _ _ rfl _ _ 22 5 rfl w.heap.size Tryz.underlying22 infoU8 rfl _ _ _ rfl hown rfl rfl (by omega) (by omega) (by have:=hbw.size; omega) ?_)
          intro v' w2 hown2 hgrow
          go_wp2
          go_roundw
          case rel => exact ⟨k + 1,by go_num,by omega,hadd.out _ _ hown2,below_row hbw hown hgrow hbz (Nat.le_refl _)⟩
          case measure => simp [intOf]; omega
    · obtain rfl : k = s.size:=by omega
      rw [List.take_of_length_le (l:=s.data.toList) (show s.data.toList.length ≤ s.size from Nat.le_refl _)] at hown
      have hcv:=(Sl.own hown).toString 22 9 5 Tryz.underlying22 Tryz.underlying5 Tryz.underlying9
      go_wp2
      go_ret
      exact ⟨rfl,hbw⟩
end Go.Proofs.YteefodibpjgicaaGreat
