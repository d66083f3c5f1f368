/- Texts joined: Tok2, Tok3, Tok4. -/
import Derived.Test.YteefodibpjgicaaGreatA3
import Derived.Test.YteefodibpjgicaaGreatA40
namespace Go.Proofs.YteefodibpjgicaaGreat
open Go.RowKit
structure Asks (F : Nat) (caps : Array Value) (q : UInt8 → Bool) (w0 : World) : Prop where
  enter : ∀ (args : Array Value) (w : World),(callFunc F args).run Tryz.prog w = .ok (.enter F args) w
  flat : Flat q
  call : ∀ (r : Nat) (w : World),r < 1114112 → Below w0.heap.size w0 w → Calls Tryz.prog F (#[.int .i32 (r : Int)] ++ caps) w (BoolPost (askR q r) w)
def TakePost (q : UInt8 → Bool) (l : List UInt8) (w : World) (e : Ending) (w' : World) : Prop :=
  e = .returned (.tuple #[.string (M5.bs (l.takeWhile q)),.string (M5.bs (l.dropWhile q))]) ∧ Below w.heap.size w w'
theorem take_part (s : ByteArray) (q : UInt8 → Bool) (k : Nat) (h : k = M5.spanN q s.data.toList) : s.extract 0 k = M5.bs (s.data.toList.takeWhile q):=by
  rw [bs_cut,List.drop_zero,Nat.sub_zero,h,M5.span_take]
theorem drop_part (s : ByteArray) (q : UInt8 → Bool) (k : Nat) (h : k = M5.spanN q s.data.toList) : s.extract k s.size = M5.bs (s.data.toList.dropWhile q):=by
  rw [bs_cut,List.take_of_length_le (by rw [List.length_drop]; exact Nat.le_refl _),h,M5.span_drop]
set_option maxHeartbeats 2000000 in
set_option maxRecDepth 100000 in
theorem tokTake {F : Nat} {caps : Array Value} {q : UInt8 → Bool} (s : ByteArray) (w : World) (hA : Asks F caps q w) (hs : s.size ≤ 1073741824) :
    Calls Tryz.prog 171 #[.string s,.func (.func F) #[] caps] w (TakePost q s.data.toList w):=by
  have hE:=hA.enter
  obtain ⟨N,hN⟩ : ∃ N,Hid (N = M5.spanN q s.data.toList):=⟨_,rfl⟩
  have hNs : N ≤ s.size:=by rw [hN.out]; exact M5.spanN_le _ _
  obtain ⟨wo,rfl⟩ : ∃ wo : World,wo = w:=⟨_,rfl⟩
  go_enter Tryz.func171,Tryz.ntmps171
  go_wp2_with fail
  go_loopw [] (fun wr => ∃ pos : Nat,pos ≤ s.size ∧ wr.heap[wo.heap.size]? = some (.stringIter s pos) ∧ Below wo.heap.size wo wr ∧ Hid (N = pos + M5.spanN q (s.data.toList.drop pos))) (fun wr => s.size - wr.iterPos wo.heap.size)
  case atStart => exact ⟨0,by omega,World.iter_heap wo s 0,(Below.refl _ wo).alloc (Nat.le_refl _) _,by show _ = _; rw [hN.out]; simp⟩
  case round =>
    obtain ⟨pos,hpl,hit,hbw,hv⟩:=hrel
    have hsz : wo.heap.size < wr.heap.size:=(Array.getElem?_eq_some_iff.1 hit).1
    by_cases hp : pos < s.size
    · have hp' : pos < s.data.toList.length:=hp
      have hne:=drop_ne hp'
      have hnx:=next_dec (P:=Tryz.prog) wr wo.heap.size s pos hit hp
      have hst0:=rune_step hA.flat _ hne
      have hw1:=M1.dec_pos _ hne
      have hw2:=M1.dec_le _ hne
      have hlt:=M1.dec_lt (s.data.toList.drop pos)
      rw [List.drop_drop] at hst0
      rw [List.length_drop,show s.data.toList.length = s.size from rfl] at hw2
      have hbw1:=Lib.below_iterAt hbw (Nat.le_refl _) s (pos + (M1.dec (s.data.toList.drop pos)).2)
      have hit1:=Lib.iterAt_heap wr wo.heap.size s pos (pos + (M1.dec (s.data.toList.drop pos)).2) hit
      have hcall:=Lib.hid (hA.call (M1.dec (s.data.toList.drop pos)).1 _ hlt hbw1)
      generalize (M1.dec (s.data.toList.drop pos)).1 = r at *
      generalize (M1.dec (s.data.toList.drop pos)).2 = wd at *
      generalize wr.iterAt wo.heap.size s (pos + wd) = w1 at *
      have hst:=Lib.hid hst0
      clear hst0 hne hbw
      cases hb : askR q r
      · have hk : pos = M5.spanN q s.data.toList:=by rw [← hN.out,hv.out,hst.out.2 hb]; rfl
        rw [hb] at hcall
        replace hk:=Lib.hid hk
        go_wp2_with fail
        refine hcall.out.mono ?_
        rintro e1 w2 ⟨rfl,rfl⟩
        go_wp2_with fail
        go_quiet (fail)
        go_wp2_with fail
        go_ret2
        exact ⟨by rw [← take_part s q pos hk.out,← drop_part s q pos hk.out]; rfl,below_drewN hbw1 _⟩
      · have hv2 : Hid (N = pos + wd + M5.spanN q (s.data.toList.drop (pos + wd))):=by show _ = _; rw [hv.out,hst.out.1 hb]; omega
        rw [hb] at hcall
        go_wp2_with fail
        refine hcall.out.mono ?_
        rintro e1 w2 ⟨rfl,rfl⟩
        go_wp2_with fail
        go_roundw
        case rel => exact ⟨pos + wd,by omega,hit1,hbw1,hv2⟩
        case measure => rw [iterPos_of hit1,iterPos_of hit]; omega
    · have hnx:=fun ty => Lib.run_next_end_at (P:=Tryz.prog) wr wo.heap.size s pos ty hit hp
      go_wp2_with fail
      go_ret2
      have hNe : N = s.size:=by rw [hv.out,List.drop_of_length_le (by show s.size ≤ pos; omega)]; show pos + 0 = _; omega
      have e1 : M5.bs (s.data.toList.takeWhile q) = s:=by rw [← take_part s q N hN.out,hNe,ByteArray.extract_zero_size]
      have e2 : M5.bs (s.data.toList.dropWhile q) = ⟨#[]⟩:=by rw [← drop_part s q N hN.out,hNe]; apply ByteArray.ext; apply Array.ext'; rw [Lib.extract_data]; simp
      exact ⟨by rw [e1,e2]; rfl,hbw⟩
end Go.Proofs.YteefodibpjgicaaGreat

namespace Go.Proofs.YteefodibpjgicaaGreat
open Go.RowKit
theorem bp_of {b c : Bool} {w : World} (h : b = c) : BoolPost b w (.returned (.bool c)) w:=by rw [h]; exact ⟨rfl,rfl⟩
theorem askR_name (r : Nat) : askR M5.nameB r = (askR M5.letterB r || decide (48 ≤ r ∧ r ≤ 57) || ((r : Int) == 45)):=by
  have e : ((askR M5.letterB r || askR (fun c => decide (48 ≤ c.toNat ∧ c.toNat ≤ 57)) r) || askR (· == 45) r : Bool) = askR M5.nameB r:=rfl
  rw [← e,askR_eq 45 (by decide) r]
  have e2 : askR (fun c => decide (48 ≤ c.toNat ∧ c.toNat ≤ 57)) r = decide (48 ≤ r ∧ r ≤ 57):=by
    unfold askR
    by_cases h : r < 128
    · rw [if_pos h]
      show decide (48 ≤ r.toUInt8.toNat ∧ r.toUInt8.toNat ≤ 57) = _
      rw [u8_low r h]
    · rw [if_neg h]
      rw [decide_eq_decide]
      constructor
      · intro h'; exact absurd h'.2 (by decide)
      · intro h'; omega
  rw [e2]
  rfl
set_option maxHeartbeats 1000000 in
theorem tokNamed1 (r : Nat) (w : World) : Calls Tryz.prog 182 #[.int .i32 (r : Int)] w (BoolPost (askR M5.nameB r) w):=by
  have hL:=Lib.hid (fun w => tokLetter r w)
  rw [askR_name]
  generalize askR M5.letterB r = lb at *
  cases lb
  · by_cases h1 : 48 ≤ r
    · by_cases h2 : r ≤ 57
      · have hr : (false || decide (48 ≤ r ∧ r ≤ 57) || ((r : Int) == 45)) = true:=by simp [h1,h2]
        rw [hr]
        clear hr
        go_enter Tryz.func182,Tryz.ntmps182
        go_wp2_with (go_at_call 162; refine (hL.out _).mono ?_; rintro e1 w1 ⟨rfl,rfl⟩)
        go_ret
        exact bp_of (by first | rfl | (rw [Bool.eq_iff_iff]; simp; omega))
      · have h45 : ((r : Int) == 45) = false:=by simp; omega
        have hr : (false || decide (48 ≤ r ∧ r ≤ 57) || ((r : Int) == 45)) = false:=by rw [h45]; simp [h2]
        rw [hr]
        clear hr
        go_enter Tryz.func182,Tryz.ntmps182
        go_wp2_with (go_at_call 162; refine (hL.out _).mono ?_; rintro e1 w1 ⟨rfl,rfl⟩)
        go_ret
        exact bp_of (by first | rfl | (rw [Bool.eq_iff_iff]; simp; omega))
    · cases h45 : ((r : Int) == 45)
      · have hr : (false || decide (48 ≤ r ∧ r ≤ 57) || false) = false:=by simp [h1]
        rw [hr]
        clear hr
        go_enter Tryz.func182,Tryz.ntmps182
        go_wp2_with (go_at_call 162; refine (hL.out _).mono ?_; rintro e1 w1 ⟨rfl,rfl⟩)
        go_ret
        exact bp_of (by first | rfl | (rw [Bool.eq_iff_iff]; simp; omega))
      · have hr : (false || decide (48 ≤ r ∧ r ≤ 57) || true) = true:=by simp
        rw [hr]
        clear hr
        go_enter Tryz.func182,Tryz.ntmps182
        go_wp2_with (go_at_call 162; refine (hL.out _).mono ?_; rintro e1 w1 ⟨rfl,rfl⟩)
        go_ret
        exact bp_of (by first | rfl | (rw [Bool.eq_iff_iff]; simp; omega))
  · have hr : (true || decide (48 ≤ r ∧ r ≤ 57) || ((r : Int) == 45)) = true:=by simp
    rw [hr]
    clear hr
    go_enter Tryz.func182,Tryz.ntmps182
    go_wp2_with (go_at_call 162; refine (hL.out _).mono ?_; rintro e1 w1 ⟨rfl,rfl⟩)
    go_ret
    exact bp_of (by first | rfl | (rw [Bool.eq_iff_iff]; simp; omega))
theorem key_eq (c : UInt8) : M5.keyB c = (!betwB c && !(c == 62)):=by
  unfold M5.keyB M5.stopB betwB
  cases M5.blankB c <;> cases (c == 47) <;> cases (c == 62) <;> cases (c == 61) <;> rfl
theorem askR_key (r : Nat) : askR M5.keyB r = (!askR betwB r && !((r : Int) == 62)):=by
  have h:=askR_eq 62 (by decide) r
  unfold askR at *
  rw [key_eq]
  rw [show ((if r < 128 then r.toUInt8 else 128) == (62 : UInt8)) = ((r : Int) == 62) from h]
theorem askR_bare (r : Nat) : askR M5.bareB r = (!askR M5.blankB r && !((r : Int) == 62)):=by
  have h:=askR_eq 62 (by decide) r
  unfold askR at *
  show (!M5.blankB _ && !(_ == _)) = _
  rw [show ((if r < 128 then r.toUInt8 else 128) == (62 : UInt8)) = ((r : Int) == 62) from h]
theorem askR_not (d : UInt8) (hd : d.toNat < 128) (r : Nat) : askR (· != d) r = !((r : Int) == (d.toNat : Int)):=by
  rw [← askR_eq d hd r]
  rfl
set_option maxHeartbeats 1000000 in
theorem tokAttr1 (r : Nat) (w : World) : Calls Tryz.prog 184 #[.int .i32 (r : Int)] w (BoolPost (askR M5.keyB r) w):=by
  have hL:=Lib.hid (fun w => tokBetween r w)
  rw [askR_key]
  generalize askR betwB r = lb at *
  generalize (r : Int) = n at *
  cases lb
  · cases h62 : (n == 62)
    · have hn : (n != 62) = true:=by rw [bne,h62]; rfl
      go_enter Tryz.func184,Tryz.ntmps184
      go_wp2_with (go_at_call 172; refine (hL.out _).mono ?_; rintro e1 w1 ⟨rfl,rfl⟩)
      go_ret
      exact bp_of rfl
    · have hn : (n != 62) = false:=by rw [bne,h62]; rfl
      go_enter Tryz.func184,Tryz.ntmps184
      go_wp2_with (go_at_call 172; refine (hL.out _).mono ?_; rintro e1 w1 ⟨rfl,rfl⟩)
      go_ret
      exact bp_of rfl
  · go_enter Tryz.func184,Tryz.ntmps184
    go_wp2_with (go_at_call 172; refine (hL.out _).mono ?_; rintro e1 w1 ⟨rfl,rfl⟩)
    go_ret
    exact bp_of rfl
set_option maxHeartbeats 1000000 in
theorem tokValue1 (r : Nat) (w : World) : Calls Tryz.prog 192 #[.int .i32 (r : Int)] w (BoolPost (askR M5.bareB r) w):=by
  have hL:=Lib.hid (fun w => tokBlank r w)
  rw [askR_bare]
  generalize askR M5.blankB r = lb at *
  generalize (r : Int) = n at *
  cases lb
  · cases h62 : (n == 62)
    · have hn : (n != 62) = true:=by rw [bne,h62]; rfl
      go_enter Tryz.func192,Tryz.ntmps192
      go_wp2_with (go_at_call 183; refine (hL.out _).mono ?_; rintro e1 w1 ⟨rfl,rfl⟩)
      go_ret
      exact bp_of rfl
    · have hn : (n != 62) = false:=by rw [bne,h62]; rfl
      go_enter Tryz.func192,Tryz.ntmps192
      go_wp2_with (go_at_call 183; refine (hL.out _).mono ?_; rintro e1 w1 ⟨rfl,rfl⟩)
      go_ret
      exact bp_of rfl
  · go_enter Tryz.func192,Tryz.ntmps192
    go_wp2_with (go_at_call 183; refine (hL.out _).mono ?_; rintro e1 w1 ⟨rfl,rfl⟩)
    go_ret
    exact bp_of rfl
set_option maxHeartbeats 1000000 in
theorem tokValue2 (r d g : Nat) (w : World) (hc : w.cell? ⟨g,0,none⟩ = some (.int .i32 (d : Int))) : Calls Tryz.prog 193 #[.int .i32 (r : Int),.pointer (some ⟨g,0,none⟩)] w (BoolPost (!((r : Int) == (d : Int))) w):=by
  generalize (r : Int) = n at *
  generalize (d : Int) = m at *
  cases h62 : (n == m)
  · have hn : (n != m) = true:=by rw [bne,h62]; rfl
    go_enter Tryz.func193,Tryz.ntmps193
    go_wp2_with fail
    go_ret
    exact bp_of rfl
  · have hn : (n != m) = false:=by rw [bne,h62]; rfl
    go_enter Tryz.func193,Tryz.ntmps193
    go_wp2_with fail
    go_ret
    exact bp_of rfl
set_option maxHeartbeats 1000000 in
theorem tokEnd1 (r : Nat) (w : World) : Calls Tryz.prog 174 #[.int .i32 (r : Int)] w (BoolPost (!((r : Int) == 62)) w):=by
  generalize (r : Int) = n at *
  cases h62 : (n == 62)
  · have hn : (n != 62) = true:=by rw [bne,h62]; rfl
    go_enter Tryz.func174,Tryz.ntmps174
    go_wp2_with fail
    go_ret
    exact bp_of rfl
  · have hn : (n != 62) = false:=by rw [bne,h62]; rfl
    go_enter Tryz.func174,Tryz.ntmps174
    go_wp2_with fail
    go_ret
    exact bp_of rfl
theorem flat_blank : Flat M5.blankB:=flat_of (by decide +kernel)
theorem flat_betw : Flat betwB:=flat_of (by decide +kernel)
theorem flat_name : Flat M5.nameB:=flat_of (by decide +kernel)
theorem flat_key : Flat M5.keyB:=flat_of (by decide +kernel)
theorem flat_bare : Flat M5.bareB:=flat_of (by decide +kernel)
theorem flat_ne (d : UInt8) (hd : d.toNat < 128) : Flat (· != d):=by
  intro c hc
  have h1 : c ≠ d:=fun e => by subst e; omega
  have h2 : (128 : UInt8) ≠ d:=fun e => by subst e; exact absurd hd (by decide)
  show (c != d) = ((128 : UInt8) != d)
  rw [bne_iff_ne.2 h1,bne_iff_ne.2 h2]
theorem asksBlank (w : World) : Asks 183 #[] M5.blankB w:=⟨enters_of Tryz.func183 (by kernel_rfl) rfl,flat_blank,fun r w _ _ => tokBlank r w⟩
theorem asksBetween (w : World) : Asks 172 #[] betwB w:=⟨enters_of Tryz.func172 (by kernel_rfl) rfl,flat_betw,fun r w _ _ => tokBetween r w⟩
theorem asksNamed (w : World) : Asks 182 #[] M5.nameB w:=⟨enters_of Tryz.func182 (by kernel_rfl) rfl,flat_name,fun r w _ _ => tokNamed1 r w⟩
theorem asksKey (w : World) : Asks 184 #[] M5.keyB w:=⟨enters_of Tryz.func184 (by kernel_rfl) rfl,flat_key,fun r w _ _ => tokAttr1 r w⟩
theorem asksBare (w : World) : Asks 192 #[] M5.bareB w:=⟨enters_of Tryz.func192 (by kernel_rfl) rfl,flat_bare,fun r w _ _ => tokValue1 r w⟩
theorem asksEnd (w : World) : Asks 174 #[] (· != 62) w:=⟨enters_of Tryz.func174 (by kernel_rfl) rfl,flat_ne 62 (by decide),fun r w _ _ => by rw [askR_not 62 (by decide) r]; exact tokEnd1 r w⟩
theorem asksMark (w : World) (d : UInt8) (hd : d.toNat < 128) (g : Nat) (hc : w.cell? ⟨g,0,none⟩ = some (.int .i32 (d.toNat : Int))) : Asks 193 #[.pointer (some ⟨g,0,none⟩)] (· != d) w :=
  ⟨enters_of Tryz.func193 (by kernel_rfl) rfl,flat_ne d hd,fun r w1 _ hb => by
    rw [askR_not d hd r]
    exact tokValue2 r d.toNat g w1 (by rw [hb.cell (World.block_lt_of_cell? w _ hc)]; exact hc)⟩
end Go.Proofs.YteefodibpjgicaaGreat

namespace Go.Proofs.YteefodibpjgicaaGreat
open Go.RowKit
theorem idx_three (c : UInt8) : decide (0 ≤ Lib.indexByte [33,63,47] c) = ((c == 33) || (c == 63) || (c == 47)):=by
  unfold Lib.indexByte
  unfold Lib.indexByte
  unfold Lib.indexByte
  unfold Lib.indexByte
  rw [Bool.beq_comm (a:=(33 : UInt8)),Bool.beq_comm (a:=(63 : UInt8)),Bool.beq_comm (a:=(47 : UInt8))]
  cases (c == 33) <;> cases (c == 63) <;> cases (c == 47) <;> decide
theorem wrap32_byte (c : UInt8) : wrap32 (c.toNat : Int) = (c.toNat : Int):=by
  have:=c.toNat_lt
  unfold wrap32
  omega
set_option maxHeartbeats 2000000 in
set_option maxRecDepth 100000 in
theorem tokStarts (s : ByteArray) (w : World) (hs : s.size ≤ 1073741824) : Calls Tryz.prog 161 #[.string s] w (BoolPost (M5.startsB s.data.toList) w):=by
  by_cases h2 : s.size < 2
  · have e : M5.startsB s.data.toList = false:=by
      have : s.data.toList.length < 2:=h2
      generalize s.data.toList = l at *
      match l with
      | [] => rfl
      | [_] => rfl
      | _ :: _ :: _ => simp at this; omega
    rw [e]
    clear e
    go_enter Tryz.func161,Tryz.ntmps161
    go_wp2
    go_ret
    exact ⟨rfl,rfl⟩
  · have e : M5.startsB s.data.toList = (((s[0]'(by omega)) == 60) && (M5.letterB (s[1]'(by omega)) || (s[1]'(by omega)) == 33 || (s[1]'(by omega)) == 63 || (s[1]'(by omega)) == 47)):=by
      have : s.data.toList = s[0] :: s[1] :: s.data.toList.drop 2:=by
        rw [← drop_cons s 1 (by omega)]
        have:=drop_cons s 0 (by omega)
        simpa using this
      rw [this]
      rfl
    have i0 : 0 < s.size:=by omega
    have i1 : 1 < s.size:=by omega
    have hL : Hid (∀ w,Calls Tryz.prog 162 #[.int .i32 (wrap32 (s[1].toNat : Int))] w (BoolPost (askR M5.letterB s[1].toNat) w)):=Lib.hid (fun w => by rw [wrap32_byte]; exact tokLetter s[1].toNat w)
    have hI:=Lib.hid (fun w => sIndexByte ⟨#[33,63,47]⟩ (s[1].toNat : Int) w)
    have hix : Hid (decide ((0 : Int) ≤ Lib.indexByte [33,63,47] ((s[1].toNat : Int)).toNat.toUInt8) = ((s[1] == 33) || (s[1] == 63) || (s[1] == 47))):=by
      show _ = _
      rw [idx_three]
      simp
    have hal : Hid (M5.letterB s[1] = askR M5.letterB s[1].toNat):=by
      show _ = _
      by_cases hc : s[1].toNat < 128
      · rw [ask_low _ _ hc]
      · unfold askR
        rw [if_neg hc]
        unfold M5.letterB
        rw [Bool.eq_iff_iff]
        simp
        omega
    rw [hal.out] at e
    rw [eqI (s[0]) 60] at e
    change M5.startsB s.data.toList = (((s[0].toNat : Int) == 60) && (askR M5.letterB s[1].toNat || (s[1] == 33) || (s[1] == 63) || (s[1] == 47))) at e
    rw [e]
    clear e hal
    cases h60 : ((s[0].toNat : Int) == 60)
    · have hn : ((s[0].toNat : Int) != 60) = true:=by rw [bne,h60]; rfl
      go_enter Tryz.func161,Tryz.ntmps161
      go_wp2
      go_ret
      exact ⟨rfl,rfl⟩
    · have hn : ((s[0].toNat : Int) != 60) = false:=by rw [bne,h60]; rfl
      cases hl : askR M5.letterB s[1].toNat
      · go_enter Tryz.func161,Tryz.ntmps161
        go_wp2_with fail
        refine (hL.out _).mono ?_
        rintro e1 w1 ⟨rfl,rfl⟩
        rw [hl]
        go_wp2_with fail
        refine (hI.out _).mono ?_
        rintro e1 w1 ⟨rfl,rfl⟩
        go_wp2_with fail
        go_ret
        exact bp_of (by rw [Bool.true_and,Bool.false_or,← hix.out,Int.toNat_natCast]; simp)
      · go_enter Tryz.func161,Tryz.ntmps161
        go_wp2_with fail
        refine (hL.out _).mono ?_
        rintro e1 w1 ⟨rfl,rfl⟩
        rw [hl]
        go_wp2_with fail
        go_ret
        exact ⟨rfl,rfl⟩
def NamedPost (l : List UInt8) (w : World) (e : Ending) (w' : World) : Prop :=
  e = .returned (.tuple #[.string (M5.bs (M1.fold (l.takeWhile M5.nameB))),.string (M5.bs (l.dropWhile M5.nameB))]) ∧ Below w.heap.size w w'
theorem bs_size (l : List UInt8) : (M5.bs l).size = l.length:=by
  show (M5.bs l).data.size = _
  rw [← Array.length_toList,M5.bs_data]
theorem tw_le (q : UInt8 → Bool) (s : ByteArray) : (M5.bs (s.data.toList.takeWhile q)).size ≤ s.size:=by
  rw [bs_size]
  exact (List.takeWhile_prefix q).length_le
theorem dw_le (q : UInt8 → Bool) (s : ByteArray) : (M5.bs (s.data.toList.dropWhile q)).size ≤ s.size:=by
  rw [bs_size]
  exact (List.dropWhile_suffix q).length_le
set_option maxHeartbeats 2000000 in
set_option maxRecDepth 100000 in
theorem tokNamed (s : ByteArray) (w : World) (hs : s.size ≤ 1073741824) : Calls Tryz.prog 170 #[.string s] w (NamedPost s.data.toList w):=by
  have hT:=Lib.hid (tokTake s w (asksNamed w) hs)
  have hl:=tw_le M5.nameB s
  have hF:=Lib.hid (fun w => utfFold (M5.bs (s.data.toList.takeWhile M5.nameB)) w (by omega))
  rw [M5.bs_data] at hF
  go_enter Tryz.func170,Tryz.ntmps170
  go_wp2_with fail
  refine hT.out.mono ?_
  rintro e1 w1 ⟨rfl,hb1⟩
  go_wp2_with fail
  refine (hF.out _).mono ?_
  rintro e1 w2 ⟨rfl,hb2⟩
  go_wp2_with fail
  go_ret2
  exact ⟨rfl,bt hb1 hb2⟩
def PairPost (p : List UInt8 × List UInt8) (w : World) (e : Ending) (w' : World) : Prop :=
  e = .returned (.tuple #[.string (M5.bs p.1),.string (M5.bs p.2)]) ∧ Below w.heap.size w w'
theorem hasP1 (s : ByteArray) (c : UInt8) : Lib.hasPrefix s.data.toList [c] = (s.data.toList.head? == some c):=by
  show [c].isPrefixOf s.data.toList = _
  cases s.data.toList with
  | nil => rfl
  | cons d r =>
    show (c == d && true) = (some d == some c)
    rw [Bool.and_true,Bool.beq_comm]
    rfl
theorem drop1_bs (s : ByteArray) : s.extract 1 s.size = M5.bs (s.data.toList.drop 1):=by
  rw [bs_cut,List.take_of_length_le (by rw [List.length_drop]; exact Nat.le_refl _)]
theorem bs_drop (l : List UInt8) (k : Nat) : (M5.bs l).extract k l.length = M5.bs (l.drop k):=by
  rw [bs_cut,M5.bs_data,List.take_of_length_le (by rw [List.length_drop]; exact Nat.le_refl _)]
set_option maxHeartbeats 4000000 in
set_option maxRecDepth 100000 in
theorem tokValue (s : ByteArray) (w : World) (hs : s.size ≤ 1073741824) : Calls Tryz.prog 185 #[.string s] w (PairPost (M5.valC s.data.toList) w):=by
  have hH:=Lib.hid (fun c w => hasPrefix_any s ⟨#[c]⟩ w)
  have e34:=hasP1 s 34
  have e39:=hasP1 s 39
  have hT:=Lib.hid (tokTake s w (asksBare w) hs)
  by_cases hq : ∃ q t,s.data.toList = q :: t ∧ (q = 34 ∨ q = 39)
  · obtain ⟨q,t,hl,hq⟩:=hq
    have h0 : 0 < s.size:=by
      have : s.data.toList.length = s.size:=rfl
      rw [hl] at this
      simp at this
      omega
    have hq0 : s[0] = q:=by
      have:=drop_cons s 0 h0
      rw [List.drop_zero,hl] at this
      exact (List.cons.inj this).1.symm
    have hd1 : s.data.toList.drop 1 = t:=by rw [hl]; rfl
    have hqn : q.toNat < 128:=by rcases hq with rfl | rfl <;> decide
    have hv : Hid (M5.valC s.data.toList = M5.quoted q t):=by
      show _ = _
      rw [hl,M5.valC,if_pos hq]
    rw [hv.out]
    clear hv
    have e34' : Lib.hasPrefix s.data.toList [34] = (q == 34):=by rw [e34,hl]; rfl
    have e39' : Lib.hasPrefix s.data.toList [39] = (q == 39):=by rw [e39,hl]; rfl
    have hc0 : (w.alloc (.cells #[.int .i32 (q.toNat : Int)] 21)).cell? ⟨w.heap.size,0,none⟩ = some (.int .i32 (q.toNat : Int)):=by go_simp
    have hA:=asksMark (w.alloc (.cells #[.int .i32 (q.toNat : Int)] 21)) q hqn w.heap.size hc0
    have h1s : (s.extract 1 s.size).size ≤ 1073741824:=by rw [ByteArray.size_extract]; omega
    have hx1 : (s.extract 1 s.size).data.toList = t:=by rw [drop1_bs,M5.bs_data,hd1]
    obtain ⟨txt,htxt⟩ : ∃ x,Hid (x = M5.bs (t.takeWhile (· != q))):=⟨_,rfl⟩
    obtain ⟨rest,hrest⟩ : ∃ x,Hid (x = t.dropWhile (· != q)):=⟨_,rfl⟩
    obtain ⟨rb,hrb⟩ : ∃ x,Hid (x = M5.bs rest):=⟨_,rfl⟩
    have hT2 : Hid (Calls Tryz.prog 171 #[.string (s.extract 1 s.size),.func (.func 193) #[] #[.pointer (some ⟨w.heap.size,0,none⟩)]] (w.alloc (.cells #[.int .i32 (q.toNat : Int)] 21)) (fun e w' => e = .returned (.tuple #[.string txt,.string rb]) ∧ Below (w.alloc (.cells #[.int .i32 (q.toNat : Int)] 21)).heap.size (w.alloc (.cells #[.int .i32 (q.toNat : Int)] 21)) w')):=Lib.hid ((tokTake (s.extract 1 s.size) _ hA h1s).mono (by
      rintro e w' ⟨rfl,hb⟩
      rw [hx1,← htxt.out,← hrest.out,← hrb.out]
      exact ⟨rfl,hb⟩))
    have hlen : rb.size = rest.length:=by rw [hrb.out,bs_size]
    have hcut : Hid (∀ k,rb.extract k rest.length = M5.bs (rest.drop k)):=Lib.hid (fun k => by rw [hrb.out,bs_drop])
    have hquo : Hid (M5.quoted q t = (t.takeWhile (· != q),rest.drop 1)):=by show _ = _; rw [hrest.out]; rfl
    rw [hquo.out]
    have hb0:=Lib.hid ((Below.refl _ w).alloc (Nat.le_refl _) (.cells #[.int .i32 (q.toNat : Int)] 21))
    replace hd1:=Lib.hid hd1
    replace hl:=Lib.hid hl
    clear hT hA hc0 h1s
    have hq3 : (q == 34) = true ∨ ((q == 34) = false ∧ (q == 39) = true):=by
      rcases hq with rfl | rfl
      · exact .inl rfl
      · exact .inr ⟨by decide,rfl⟩
    clear e34 e39
    rcases hq3 with h34 | ⟨h34,h39⟩
    all_goals
      go_enter Tryz.func185,Tryz.ntmps185
      go_wp2_with (first | (go_at_call 104; refine (hasPrefix_any _ _ _).mono ?_; rintro e w1 ⟨rfl,rfl⟩; first | rw [e34',h34] | rw [e39',h39]))
      refine hT2.out.mono ?_
      rintro e1 w2 ⟨rfl,hb2⟩
      have hbW:=Lib.hid (bt hb0.out hb2)
      have hmin : Hid (rest.drop (min 1 (rest.length : Int)).toNat = rest.drop 1):=by
        show _ = _
        by_cases hz : rest.length = 0
        · rw [List.drop_of_length_le (by omega),List.drop_of_length_le (by omega)]
        · rw [show (min 1 (rest.length : Int)).toNat = 1 by omega]
      go_wp2_with fail
      go_region
      go_wp2_with fail
      go_ret2
      exact ⟨by rw [← hmin.out,← hcut.out,← htxt.out]; rfl,below_drewN hbW.out 1⟩
  · have hv : Hid (M5.valC s.data.toList = (s.data.toList.takeWhile M5.bareB,s.data.toList.dropWhile M5.bareB)):=by
      show _ = _
      cases hl : s.data.toList with
      | nil => rfl
      | cons q t => rw [M5.valC,if_neg (fun h => hq ⟨q,t,hl,h⟩)]
    have e34' : Lib.hasPrefix s.data.toList [34] = false:=by
      rw [e34,beq_eq_false_iff_ne]
      intro h
      cases hl : s.data.toList with
      | nil => rw [hl] at h; cases h
      | cons q t => rw [hl] at h; exact hq ⟨q,t,hl,.inl (Option.some.inj h)⟩
    have e39' : Lib.hasPrefix s.data.toList [39] = false:=by
      rw [e39,beq_eq_false_iff_ne]
      intro h
      cases hl : s.data.toList with
      | nil => rw [hl] at h; cases h
      | cons q t => rw [hl] at h; exact hq ⟨q,t,hl,.inr (Option.some.inj h)⟩
    rw [hv.out]
    clear hv e34 e39 hq
    go_enter Tryz.func185,Tryz.ntmps185
    go_wp2_with (first | (go_at_call 104; refine (hasPrefix_any _ _ _).mono ?_; rintro e w1 ⟨rfl,rfl⟩; first | rw [e34'] | rw [e39']) | (go_at_call 171; refine hT.out.mono ?_; rintro e1 w1 ⟨rfl,hb1⟩))
    go_ret2
    exact ⟨rfl,hb1⟩
end Go.Proofs.YteefodibpjgicaaGreat
