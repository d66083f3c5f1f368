/- Texts joined: Ref05. -/
import Derived.BigQuiet
import Derived.Deep.DeepCutAuto
import Derived.Deep.CutBlock
import Derived.Test.YteefodibpjgicaaGreatA3
import Derived.Test.YteefodibpjgicaaGreatA5
import Derived.Test.YteefodibpjgicaaGreatA7
import Derived.Test.YteefodibpjgicaaGreatA8
namespace Go.Proofs.YteefodibpjgicaaGreat
open Go.RowKit
set_option maxHeartbeats 1000000 in
theorem ref05blank (c : UInt8) (w : World) : Calls Tryz.prog 91 #[.int .u8 (c.toNat : Int)] w fun e w' => e = .returned (.bool (M5.blankB c)) ∧ w = w':=by
  have key : ∀ d : UInt8,((c.toNat : Int) == (d.toNat : Int)) = (c == d):=by
    intro d
    by_cases h : c = d
    · subst h; simp
    · rw [ne_byte h]; simp [h]
  have e : Hid (M5.blankB c = (((c.toNat : Int) == 9) || ((c.toNat : Int) == 10) || ((c.toNat : Int) == 12) || ((c.toNat : Int) == 32))):=by
    show _ = _
    unfold M5.blankB
    rw [← key 9,← key 10,← key 12,← key 32]
    rfl
  clear key
  rw [e.out]
  generalize (c.toNat : Int) = n at *
  clear e
  cases h9 : (n == 9)
  · cases h10 : (n == 10)
    · cases h12 : (n == 12)
      · go_enter Tryz.func91,Tryz.ntmps91
        go_wp2
        go_ret
        exact ⟨rfl,rfl⟩
      · go_enter Tryz.func91,Tryz.ntmps91
        go_wp2
        go_ret
        exact ⟨rfl,rfl⟩
    · go_enter Tryz.func91,Tryz.ntmps91
      go_wp2
      go_ret
      exact ⟨rfl,rfl⟩
  · go_enter Tryz.func91,Tryz.ntmps91
    go_wp2
    go_ret
    exact ⟨rfl,rfl⟩
set_option maxHeartbeats 1000000 in
theorem ref05letter (c : UInt8) (w : World) : Calls Tryz.prog 84 #[.int .u8 (c.toNat : Int)] w fun e w' => e = .returned (.bool (M5.letterB c)) ∧ w = w':=by
  rw [show M5.letterB c = (decide (65 ≤ c.toNat ∧ c.toNat ≤ 90) || decide (97 ≤ c.toNat ∧ c.toNat ≤ 122)) from rfl]
  generalize c.toNat = n at *
  by_cases h1 : 65 ≤ n
  · by_cases h2 : n ≤ 90
    · have hr : (decide (65 ≤ n ∧ n ≤ 90) || decide (97 ≤ n ∧ n ≤ 122)) = true:=by simp [h1,h2]
      rw [hr]
      clear hr
      go_enter Tryz.func84,Tryz.ntmps84
      go_wp2
      go_ret
      exact ⟨(show Ending.returned (Value.bool _) = Ending.returned (Value.bool _) from congrArg (fun b => Ending.returned (Value.bool b)) (by first | rfl | (rw [Bool.eq_iff_iff]; simp; omega))),rfl⟩
    · by_cases h3 : 97 ≤ n
      · by_cases h4 : n ≤ 122
        · have hr : (decide (65 ≤ n ∧ n ≤ 90) || decide (97 ≤ n ∧ n ≤ 122)) = true:=by simp [h3,h4]
          rw [hr]
          clear hr
          go_enter Tryz.func84,Tryz.ntmps84
          go_wp2
          go_ret
          exact ⟨(show Ending.returned (Value.bool _) = Ending.returned (Value.bool _) from congrArg (fun b => Ending.returned (Value.bool b)) (by first | rfl | (rw [Bool.eq_iff_iff]; simp; omega))),rfl⟩
        · have hr : (decide (65 ≤ n ∧ n ≤ 90) || decide (97 ≤ n ∧ n ≤ 122)) = false:=by simp [h2,h4]
          rw [hr]
          clear hr
          go_enter Tryz.func84,Tryz.ntmps84
          go_wp2
          go_ret
          exact ⟨(show Ending.returned (Value.bool _) = Ending.returned (Value.bool _) from congrArg (fun b => Ending.returned (Value.bool b)) (by first | rfl | (rw [Bool.eq_iff_iff]; simp; omega))),rfl⟩
      · have hr : (decide (65 ≤ n ∧ n ≤ 90) || decide (97 ≤ n ∧ n ≤ 122)) = false:=by simp [h2,h3]
        rw [hr]
        clear hr
        go_enter Tryz.func84,Tryz.ntmps84
        go_wp2
        go_ret
        exact ⟨(show Ending.returned (Value.bool _) = Ending.returned (Value.bool _) from congrArg (fun b => Ending.returned (Value.bool b)) (by first | rfl | (rw [Bool.eq_iff_iff]; simp; omega))),rfl⟩
  · have hr : (decide (65 ≤ n ∧ n ≤ 90) || decide (97 ≤ n ∧ n ≤ 122)) = false:=by simp; omega
    have h3 : ¬ 97 ≤ n:=by omega
    rw [hr]
    clear hr
    go_enter Tryz.func84,Tryz.ntmps84
    go_wp2
    go_ret
    exact ⟨(show Ending.returned (Value.bool _) = Ending.returned (Value.bool _) from congrArg (fun b => Ending.returned (Value.bool b)) (by first | rfl | (rw [Bool.eq_iff_iff]; simp; omega))),rfl⟩
set_option maxHeartbeats 1000000 in
theorem ref05named (c : UInt8) (w : World) : Calls Tryz.prog 102 #[.int .u8 (c.toNat : Int)] w fun e w' => e = .returned (.bool (M5.nameB c)) ∧ w = w':=by
  have hL:=Lib.hid (fun w => ref05letter c w)
  have key : (c == 45) = ((c.toNat : Int) == 45):=by
    by_cases h : c = 45
    · subst h; rfl
    · have : ((c.toNat : Int) == 45) = false:=ne_byte (d:=45) h
      rw [this]; simp [h]
  rw [show M5.nameB c = (M5.letterB c || decide (48 ≤ c.toNat ∧ c.toNat ≤ 57) || (c == 45)) from rfl,key]
  clear key
  generalize M5.letterB c = lb at *
  generalize c.toNat = n at *
  cases lb
  · by_cases h1 : 48 ≤ n
    · by_cases h2 : n ≤ 57
      · have hr : (false || decide (48 ≤ n ∧ n ≤ 57) || ((n : Int) == 45)) = true:=by simp [h1,h2]
        rw [hr]
        clear hr
        go_enter Tryz.func102,Tryz.ntmps102
        go_wp2_with fail
        refine (hL.out _).mono ?_
        rintro e1 w1 ⟨rfl,rfl⟩
        go_wp2
        go_ret
        exact ⟨(show Ending.returned (Value.bool _) = Ending.returned (Value.bool _) from congrArg (fun b => Ending.returned (Value.bool b)) (by first | rfl | (rw [Bool.eq_iff_iff]; simp; omega))),rfl⟩
      · have h45 : ((n : Int) == 45) = false:=by simp; omega
        have hr : (false || decide (48 ≤ n ∧ n ≤ 57) || ((n : Int) == 45)) = false:=by rw [h45]; simp [h2]
        rw [hr]
        clear hr
        go_enter Tryz.func102,Tryz.ntmps102
        go_wp2_with fail
        refine (hL.out _).mono ?_
        rintro e1 w1 ⟨rfl,rfl⟩
        go_wp2
        go_ret
        exact ⟨(show Ending.returned (Value.bool _) = Ending.returned (Value.bool _) from congrArg (fun b => Ending.returned (Value.bool b)) (by first | rfl | (rw [Bool.eq_iff_iff]; simp; omega))),rfl⟩
    · cases h45 : ((n : Int) == 45)
      · have hr : (false || decide (48 ≤ n ∧ n ≤ 57) || false) = false:=by simp [h1]
        rw [hr]
        clear hr
        go_enter Tryz.func102,Tryz.ntmps102
        go_wp2_with fail
        refine (hL.out _).mono ?_
        rintro e1 w1 ⟨rfl,rfl⟩
        go_wp2
        go_ret
        exact ⟨(show Ending.returned (Value.bool _) = Ending.returned (Value.bool _) from congrArg (fun b => Ending.returned (Value.bool b)) (by first | rfl | (rw [Bool.eq_iff_iff]; simp; omega))),rfl⟩
      · have hr : (false || decide (48 ≤ n ∧ n ≤ 57) || true) = true:=by simp
        rw [hr]
        clear hr
        go_enter Tryz.func102,Tryz.ntmps102
        go_wp2_with fail
        refine (hL.out _).mono ?_
        rintro e1 w1 ⟨rfl,rfl⟩
        go_wp2
        go_ret
        exact ⟨(show Ending.returned (Value.bool _) = Ending.returned (Value.bool _) from congrArg (fun b => Ending.returned (Value.bool b)) (by first | rfl | (rw [Bool.eq_iff_iff]; simp; omega))),rfl⟩
  · have hr : (true || decide (48 ≤ n ∧ n ≤ 57) || ((n : Int) == 45)) = true:=by simp
    rw [hr]
    clear hr
    go_enter Tryz.func102,Tryz.ntmps102
    go_wp2_with fail
    refine (hL.out _).mono ?_
    rintro e1 w1 ⟨rfl,rfl⟩
    go_wp2
    go_ret
    exact ⟨(show Ending.returned (Value.bool _) = Ending.returned (Value.bool _) from congrArg (fun b => Ending.returned (Value.bool b)) (by first | rfl | (rw [Bool.eq_iff_iff]; simp; omega))),rfl⟩
def BoolPost (b : Bool) (w : World) (e : Ending) (w' : World) : Prop:=e = .returned (.bool b) ∧ w = w'
theorem eqI (c d : UInt8) : (c == d) = ((c.toNat : Int) == (d.toNat : Int)):=by
  by_cases h : c = d
  · subst h; simp
  · rw [ne_byte h]; simp [h]
theorem drop_cons (s : ByteArray) (i : Nat) (h : i < s.size) : s.data.toList.drop i = s[i] :: s.data.toList.drop (i + 1):=List.drop_eq_getElem_cons (l:=s.data.toList) h
theorem drop_end (s : ByteArray) (i : Nat) (h : s.size ≤ i) : s.data.toList.drop i = []:=List.drop_of_length_le h
set_option maxHeartbeats 2000000 in
theorem ref05Starts (s : ByteArray) (w : World) (hs : s.size ≤ 1073741824) : Calls Tryz.prog 66 #[.string s] w (BoolPost (M5.startsB s.data.toList) w):=by
  by_cases h2 : s.size < 2
  · have e : M5.startsB s.data.toList = false:=by
      have : s.data.toList.length < 2:=h2
      generalize s.data.toList = l at *
      match l with
      | [] => rfl
      | [_] => rfl
      | _ :: _ :: _ => simp at this; omega
    rw [e]
    clear e
    go_enter Tryz.func66,Tryz.ntmps66
    go_wp2
    go_ret
    exact ⟨rfl,rfl⟩
  · have e : M5.startsB s.data.toList = (((s[0]'(by omega)) == 60) && (M5.letterB (s[1]'(by omega)) || (s[1]'(by omega)) == 33 || (s[1]'(by omega)) == 63 || (s[1]'(by omega)) == 47)):=by
      have : s.data.toList = s[0] :: s[1] :: s.data.toList.drop 2:=by
        rw [← drop_cons s 1 (by omega)]
        have:=drop_cons s 0 (by omega)
        simpa using this
      rw [this]
      rfl
    have hL:=Lib.hid (fun w => ref05letter (s[1]'(by omega)) w)
    have i0 : 0 < s.size:=by omega
    have i1 : 1 < s.size:=by omega
    rw [eqI,eqI,eqI,eqI] at e
    change M5.startsB s.data.toList = (((s[0].toNat : Int) == 60) && (M5.letterB s[1] || ((s[1].toNat : Int) == 33) || ((s[1].toNat : Int) == 63) || ((s[1].toNat : Int) == 47))) at e
    rw [e]
    clear e
    cases h60 : ((s[0].toNat : Int) == 60)
    · have hn : ((s[0].toNat : Int) != 60) = true:=by rw [bne,h60]; rfl
      go_enter Tryz.func66,Tryz.ntmps66
      go_wp2
      go_ret
      exact ⟨rfl,rfl⟩
    · have hn : ((s[0].toNat : Int) != 60) = false:=by rw [bne,h60]; rfl
      cases hl : M5.letterB s[1]
      · cases h33 : ((s[1].toNat : Int) == 33)
        · cases h63 : ((s[1].toNat : Int) == 63)
          · go_enter Tryz.func66,Tryz.ntmps66
            go_wp2_with fail
            refine (hL.out _).mono ?_
            rintro e1 w1 ⟨rfl,rfl⟩
            rw [hl]
            go_wp2_with fail
            go_ret
            exact ⟨rfl,rfl⟩
          · go_enter Tryz.func66,Tryz.ntmps66
            go_wp2_with fail
            refine (hL.out _).mono ?_
            rintro e1 w1 ⟨rfl,rfl⟩
            rw [hl]
            go_wp2_with fail
            go_ret
            exact ⟨rfl,rfl⟩
        · go_enter Tryz.func66,Tryz.ntmps66
          go_wp2_with fail
          refine (hL.out _).mono ?_
          rintro e1 w1 ⟨rfl,rfl⟩
          rw [hl]
          go_wp2_with fail
          go_ret
          exact ⟨rfl,rfl⟩
      · go_enter Tryz.func66,Tryz.ntmps66
        go_wp2_with fail
        refine (hL.out _).mono ?_
        rintro e1 w1 ⟨rfl,rfl⟩
        rw [hl]
        go_wp2_with fail
        go_ret
        exact ⟨rfl,rfl⟩
theorem rf_meas {n k : Nat} (h : k < n) : n - (intOf (.int .i64 ((k : Int) + 1))).toNat < n - (intOf (.int .i64 (k : Int))).toNat:=by
  simp [intOf]; omega
theorem find_yes (wd l : List UInt8) (h : l.take wd.length = wd) (hw : 0 < wd.length) (hl : wd.length ≤ l.length) : M5.findL wd l = 0:=by
  cases l with
  | nil => have : wd.length ≤ 0:=hl; omega
  | cons c r =>
    rw [M5.findL,if_pos]
    rw [List.isPrefixOf_iff_prefix]
    exact ⟨(c :: r).drop wd.length, by conv => lhs; lhs; rw [← h]
                                       exact List.take_append_drop _ _⟩
theorem find_no (wd : List UInt8) (c : UInt8) (r : List UInt8) (h : (c :: r).take wd.length ≠ wd) : M5.findL wd (c :: r) = M5.findL wd r + 1:=by
  rw [M5.findL,if_neg]
  intro hp
  rw [List.isPrefixOf_iff_prefix] at hp
  obtain ⟨t,ht⟩:=hp
  exact h (by rw [← ht]; simp)
theorem find_short (wd l : List UInt8) (h : l.length < wd.length) : M5.findL wd l = l.length:=by
  induction l with
  | nil => rfl
  | cons c r ih =>
    have : (c :: r).take wd.length ≠ wd:=fun e => by
      have:=congrArg List.length e
      rw [List.length_take] at this
      omega
    rw [find_no wd c r this,ih (by simp at h; omega)]
    rfl
def PosPost (n : Nat) (w : World) (e : Ending) (w' : World) : Prop:=e = .returned (.int .i64 (n : Int)) ∧ w = w'
set_option maxHeartbeats 2000000 in
set_option maxRecDepth 100000 in
theorem ref05find (s wd : ByteArray) (at_ : Nat) (w : World) (hs : s.size ≤ 1073741824) (hw1 : 0 < wd.size) (hw2 : wd.size ≤ 1073741824) (ha : at_ ≤ s.size) :
    Calls Tryz.prog 88 #[.string s,.int .i64 (at_ : Int),.string wd] w (PosPost (at_ + M5.findL wd.data.toList (s.data.toList.drop at_)) w):=by
  obtain ⟨N,h0⟩ : ∃ N,Hid (N = at_ + M5.findL wd.data.toList (s.data.toList.drop at_)):=⟨_,rfl⟩
  rw [← h0.out]
  have hwl : wd.data.toList.length = wd.size:=rfl
  go_enter Tryz.func88,Tryz.ntmps88
  go_wp2_with fail
  go_loop [7] (fun u7 => ∃ i : Nat,i ≤ s.size ∧ u7 = .int .i64 (i : Int) ∧ Hid (N = i + M5.findL wd.data.toList (s.data.toList.drop i))) (fun u7 => s.size - (intOf u7).toNat)
  case atStart => exact ⟨at_,ha,rfl,h0⟩
  case round =>
    obtain ⟨i,hi,rfl,hv⟩:=hrel
    by_cases hlt : i + wd.size ≤ s.size
    · have hil : i < s.size:=by omega
      have hx : (s.extract i (i + wd.size)).data.toList = (s.data.toList.drop i).take wd.size:=by
        rw [Lib.extract_data]; congr 1; omega
      by_cases heq : s.extract i (i + wd.size) = wd
      · have hf : M5.findL wd.data.toList (s.data.toList.drop i) = 0:=find_yes _ _ (by rw [hwl,← hx,heq]) (by omega) (by rw [hwl,List.length_drop]; show _ ≤ s.size - i; omega)
        have hb : ((s.extract i (i + wd.size)).toList == wd.toList) = true:=by rw [heq]; simp
        have hN : Hid (N = i):=by show _ = _; rw [hv.out,hf]; rfl
        replace hf:=Lib.hid hf
        replace hx:=Lib.hid hx
        replace heq:=Lib.hid heq
        go_wp2_with fail
        go_ret
        exact ⟨by rw [hN.out]; rfl,rfl⟩
      · have hne : (s.data.toList.drop i).take wd.data.toList.length ≠ wd.data.toList:=fun e => heq (ByteArray.ext (Array.ext' (by rw [hx,← e]; rfl)))
        have hf : M5.findL wd.data.toList (s.data.toList.drop i) = M5.findL wd.data.toList (s.data.toList.drop (i + 1)) + 1:=by
          rw [drop_cons s i hil] at hne ⊢
          exact find_no _ _ _ hne
        have hb : ((s.extract i (i + wd.size)).toList == wd.toList) = false:=by
          rw [beq_eq_false_iff_ne]
          intro e
          exact heq (ByteArray.ext (Array.ext' (by rw [← Lib.toList_data,← Lib.toList_data]; exact e)))
        have hv2 : Hid (N = i + 1 + M5.findL wd.data.toList (s.data.toList.drop (i + 1))):=by show _ = _; rw [hv.out,hf]; omega
        replace hf:=Lib.hid hf
        replace hx:=Lib.hid hx
        replace heq:=Lib.hid heq
        replace hne:=Lib.hid hne
        go_wp2_with fail
        go_round
        case rel => exact ⟨i + 1,by omega,by go_num,hv2⟩
        case measure => exact rf_meas hil
    · have hf : M5.findL wd.data.toList (s.data.toList.drop i) = (s.data.toList.drop i).length:=find_short _ _ (by rw [List.length_drop]; show s.size - i < wd.size; omega)
      have hN : Hid (N = s.size):=by show _ = _; rw [hv.out,hf,List.length_drop]; show i + (s.size - i) = _; omega
      replace hf:=Lib.hid hf
      go_wp2_with fail
      go_ret
      exact ⟨by rw [hN.out]; rfl,rfl⟩
theorem span_step (p : UInt8 → Bool) (s : ByteArray) (i : Nat) (h : i < s.size) : M5.spanN p (s.data.toList.drop i) = if p s[i] then M5.spanN p (s.data.toList.drop (i + 1)) + 1 else 0:=by
  unfold M5.spanN
  rw [drop_cons s i h,List.takeWhile_cons]
  cases p s[i] <;> simp
theorem span_end (p : UInt8 → Bool) (s : ByteArray) (i : Nat) (h : s.size ≤ i) : M5.spanN p (s.data.toList.drop i) = 0:=by
  rw [drop_end s i h]; rfl
theorem span_bound (p : UInt8 → Bool) (s : ByteArray) (i : Nat) (h : i ≤ s.size) : i + M5.spanN p (s.data.toList.drop i) ≤ s.size:=by
  have:=M5.spanN_le p (s.data.toList.drop i)
  rw [List.length_drop] at this
  have h2 : s.data.toList.length = s.size:=rfl
  omega
def NamePost (nm : List UInt8) (n : Nat) (w : World) (e : Ending) (w' : World) : Prop:=e = .returned (.tuple #[.string ⟨nm.toArray⟩,.int .i64 (n : Int)]) ∧ Below w.heap.size w w'
set_option maxHeartbeats 2000000 in
set_option maxRecDepth 100000 in
theorem ref05name (s : ByteArray) (at_ : Nat) (w : World) (hs : s.size ≤ 1073741824) (ha : at_ ≤ s.size) :
    Calls Tryz.prog 89 #[.string s,.int .i64 (at_ : Int)] w (NamePost (M1.fold ((s.data.toList.drop at_).takeWhile M5.nameB)) (at_ + M5.spanN M5.nameB (s.data.toList.drop at_)) w):=by
  obtain ⟨N,h0⟩ : ∃ N,Hid (N = at_ + M5.spanN M5.nameB (s.data.toList.drop at_)):=⟨_,rfl⟩
  have hNs : N ≤ s.size:=by rw [h0.out]; exact span_bound _ s at_ ha
  have hNa : at_ ≤ N:=by rw [h0.out]; omega
  have hex : Hid ((s.data.toList.drop at_).takeWhile M5.nameB = (s.data.toList.drop at_).take (N - at_)):=by show _ = _; rw [← M5.span_take,h0.out,Nat.add_sub_cancel_left]
  rw [← h0.out,hex.out]
  clear hex
  go_enter Tryz.func89,Tryz.ntmps89
  go_wp2_with fail
  go_loop [6] (fun u6 => ∃ i : Nat,i ≤ s.size ∧ u6 = .int .i64 (i : Int) ∧ Hid (N = i + M5.spanN M5.nameB (s.data.toList.drop i))) (fun u6 => s.size - (intOf u6).toNat)
  case atStart => exact ⟨at_,ha,rfl,h0⟩
  case round =>
    obtain ⟨i,hi,rfl,hv⟩:=hrel
    by_cases hil : i < s.size
    · have hN:=Lib.hid (fun w => ref05named s[i] w)
      have hst:=span_step M5.nameB s i hil
      cases hb : M5.nameB s[i]
      · rw [hb,if_neg (by simp)] at hst
        have hN2 : Hid (N = i):=by show _ = _; rw [hv.out,hst]; rfl
        obtain rfl : N = i:=hN2.out
        replace hst:=Lib.hid hst
        clear hN2 hv
        go_wp2_with (go_at_call 102; refine (hN.out _).mono ?_; rintro e1 w1 ⟨rfl,rfl⟩; rw [hb])
        refine (ref01Fold (s.extract at_ N) _ (by rw [ByteArray.size_extract]; omega)).mono ?_
        rintro e1 w1 ⟨rfl,hb1⟩
        go_wp2_with fail
        go_ret2
        exact ⟨rfl,hb1⟩
      · rw [hb,if_pos rfl] at hst
        have hv2 : Hid (N = i + 1 + M5.spanN M5.nameB (s.data.toList.drop (i + 1))):=by show _ = _; rw [hv.out,hst]; omega
        replace hst:=Lib.hid hst
        go_wp2_with (go_at_call 102; refine (hN.out _).mono ?_; rintro e1 w1 ⟨rfl,rfl⟩; rw [hb])
        go_round
        case rel => exact ⟨i + 1,by omega,by go_num,hv2⟩
        case measure => exact rf_meas hil
    · obtain rfl : i = s.size:=by omega
      have hN2 : N = s.size:=by rw [hv.out,span_end _ s _ (Nat.le_refl _)]; rfl
      subst hN2
      clear hv
      go_wp2_with fail
      refine (ref01Fold (s.extract at_ s.size) _ (by rw [ByteArray.size_extract]; omega)).mono ?_
      rintro e1 w1 ⟨rfl,hb1⟩
      go_wp2_with fail
      go_ret2
      exact ⟨rfl,hb1⟩
theorem eqN (c : UInt8) (d : UInt8) : ((c.toNat : Int) != (d.toNat : Int)) = !(c == d):=by rw [bne,← eqI]
theorem drop_while (p : UInt8 → Bool) (l : List UInt8) (i : Nat) : (l.drop i).dropWhile p = l.drop (i + M5.spanN p (l.drop i)):=by
  rw [← M5.span_drop,List.drop_drop]
theorem take_while (p : UInt8 → Bool) (l : List UInt8) (i : Nat) : (l.drop i).takeWhile p = (l.drop i).take (M5.spanN p (l.drop i)):=(M5.span_take _ _).symm
def npB (c : UInt8) : Bool:=!M5.stopB c
def nvB (c : UInt8) : Bool:=!M5.blankB c && c != 62
theorem attr_bare (s : ByteArray) (at_ E I1 : Nat) (hE : E = at_ + M5.spanN npB (s.data.toList.drop at_)) (h1 : I1 = E + M5.spanN M5.blankB (s.data.toList.drop E)) (hI : I1 ≤ s.size) (hno : ∀ h : I1 < s.size,s[I1] ≠ 61) :
    M5.attrAt (s.data.toList.drop at_) = (⟨M5.bs (M1.fold ((s.data.toList.drop at_).take (E - at_))),⟨#[]⟩⟩,s.data.toList.drop I1,true):=by
  have e1 : ((s.data.toList.drop at_).dropWhile fun c => !M5.stopB c).dropWhile M5.blankB = s.data.toList.drop I1:=by
    rw [show ((s.data.toList.drop at_).dropWhile fun c => !M5.stopB c) = (s.data.toList.drop at_).dropWhile npB from rfl,drop_while,← hE,drop_while,← h1]
  have e2 : ((s.data.toList.drop at_).takeWhile fun c => !M5.stopB c) = (s.data.toList.drop at_).take (E - at_):=by
    rw [show ((s.data.toList.drop at_).takeWhile fun c => !M5.stopB c) = (s.data.toList.drop at_).takeWhile npB from rfl,take_while]
    congr 1
    omega
  unfold M5.attrAt
  rw [e1,e2]
  by_cases h : I1 < s.size
  · rw [drop_cons s I1 h]
    have:=hno h
    split
    · rename_i r he
      injection he with he1 _
      exact absurd he1 this
    · rfl
  · rw [drop_end s I1 (by omega)]
theorem attr_eq (s : ByteArray) (at_ E I1 : Nat) (hE : E = at_ + M5.spanN npB (s.data.toList.drop at_)) (h1 : I1 = E + M5.spanN M5.blankB (s.data.toList.drop E)) (h : I1 < s.size) (h61 : s[I1] = 61) :
    M5.attrAt (s.data.toList.drop at_) = M5.valueAt (M5.bs (M1.fold ((s.data.toList.drop at_).take (E - at_)))) (s.data.toList.drop (I1 + 1)):=by
  have e1 : ((s.data.toList.drop at_).dropWhile fun c => !M5.stopB c).dropWhile M5.blankB = s.data.toList.drop I1:=by
    rw [show ((s.data.toList.drop at_).dropWhile fun c => !M5.stopB c) = (s.data.toList.drop at_).dropWhile npB from rfl,drop_while,← hE,drop_while,← h1]
  have e2 : ((s.data.toList.drop at_).takeWhile fun c => !M5.stopB c) = (s.data.toList.drop at_).take (E - at_):=by
    rw [show ((s.data.toList.drop at_).takeWhile fun c => !M5.stopB c) = (s.data.toList.drop at_).takeWhile npB from rfl,take_while]
    congr 1
    omega
  unfold M5.attrAt
  rw [e1,e2,drop_cons s I1 h,h61]
  rfl
theorem value_end (s : ByteArray) (nm : ByteArray) (j I2 : Nat) (h2 : I2 = j + M5.spanN M5.blankB (s.data.toList.drop j)) (h : s.size ≤ I2) : M5.valueAt nm (s.data.toList.drop j) = (⟨nm,M5.bs (M2.decode [])⟩,[],true):=by
  unfold M5.valueAt
  rw [drop_while,← h2,drop_end s I2 h]
theorem value_quote (s : ByteArray) (nm : ByteArray) (j I2 : Nat) (h2 : I2 = j + M5.spanN M5.blankB (s.data.toList.drop j)) (h : I2 < s.size) (hq : s[I2] = 34 ∨ s[I2] = 39) :
    M5.valueAt nm (s.data.toList.drop j) = if M5.findL [s[I2]] (s.data.toList.drop (I2 + 1)) < (s.data.toList.drop (I2 + 1)).length then (⟨nm,M5.bs (M2.decode ((s.data.toList.drop (I2 + 1)).take (M5.findL [s[I2]] (s.data.toList.drop (I2 + 1)))))⟩,(s.data.toList.drop (I2 + 1)).drop (M5.findL [s[I2]] (s.data.toList.drop (I2 + 1)) + 1),true) else (⟨nm,⟨#[]⟩⟩,[],false):=by
  unfold M5.valueAt
  rw [drop_while,← h2,drop_cons s I2 h]
  dsimp only
  rw [if_pos hq]
theorem value_bare (s : ByteArray) (nm : ByteArray) (j I2 : Nat) (h2 : I2 = j + M5.spanN M5.blankB (s.data.toList.drop j)) (h : I2 < s.size) (hq : ¬ (s[I2] = 34 ∨ s[I2] = 39)) :
    M5.valueAt nm (s.data.toList.drop j) = (⟨nm,M5.bs (M2.decode ((s.data.toList.drop I2).take (M5.spanN nvB (s.data.toList.drop I2))))⟩,s.data.toList.drop (I2 + M5.spanN nvB (s.data.toList.drop I2)),true):=by
  rw [← drop_while,← take_while]
  unfold M5.valueAt
  rw [drop_while,← h2,drop_cons s I2 h]
  dsimp only
  rw [if_neg hq]
  rfl
def AttPost (p : Att × List UInt8 × Bool) (n : Nat) (w : World) (e : Ending) (w' : World) : Prop:=e = .returned (.tuple #[.agg #[.string p.1.name,.string p.1.value],.int .i64 ((n - p.2.1.length : Nat) : Int),.bool p.2.2]) ∧ Below w.heap.size w w'
theorem attPost_mk {l : List UInt8} {a : Att} {k : Nat} {ok : Bool} {p : Att × List UInt8 × Bool} {w w' : World} {e : Ending} (hp : p = (a,l.drop k,ok)) (hk : k ≤ l.length) (he : e = .returned (.tuple #[.agg #[.string a.name,.string a.value],.int .i64 (k : Int),.bool ok])) (hb : Below w.heap.size w w') : AttPost p l.length w e w':=by
  subst hp he
  refine ⟨?_,hb⟩
  rw [show (l.drop k).length = l.length - k from List.length_drop,show l.length - (l.length - k) = k by omega]
theorem Box.two {W : World} {g : Nat} {t : TypeId} {z0 z1 : Value} (h : Box W g t [z0,z1]) (c0 c1 : Value) : Box ((W.setCell ⟨g,0,none⟩ c0).setCell ⟨g,1,none⟩ c1) g t [c0,c1]:=by
  have:=(h.set 0 c0).set 1 c1
  simpa only [List.set_cons_succ,List.set_cons_zero] using this
theorem two_below {B : Nat} {a W : World} (h : Below B a W) {g : Nat} (c0 c1 : Value) (hg : B ≤ g) : Below B a ((W.setCell ⟨g,0,none⟩ c0).setCell ⟨g,1,none⟩ c1) :=
  (h.setCell (p:=⟨g,0,none⟩) hg c0).setCell (p:=⟨g,1,none⟩) hg c1
set_option maxHeartbeats 8000000 in
set_option maxRecDepth 100000 in
theorem ref05attribute (s : ByteArray) (at_ : Nat) (w : World) (hs : s.size ≤ 1073741824) (ha : at_ ≤ s.size) :
    Calls Tryz.prog 101 #[.string s,.int .i64 (at_ : Int)] w (AttPost (M5.attrAt (s.data.toList.drop at_)) s.size w):=by
  obtain ⟨E,hE⟩ : ∃ E,Hid (E = at_ + M5.spanN npB (s.data.toList.drop at_)):=⟨_,rfl⟩
  have hEs : E ≤ s.size:=by rw [hE.out]; exact span_bound _ s at_ ha
  have hEa : at_ ≤ E:=by rw [hE.out]; omega
  obtain ⟨I1,h1⟩ : ∃ I,Hid (I = E + M5.spanN M5.blankB (s.data.toList.drop E)):=⟨_,rfl⟩
  have h1s : I1 ≤ s.size:=by rw [h1.out]; exact span_bound _ s E hEs
  have hbl:=Lib.hid (fun (i : Nat) (h : i < s.size) (w : World) => ref05blank s[i] w)
  go_enter Tryz.func101,Tryz.ntmps101
  go_upto_block 0 with fail
  go_cut [7] (fun s7 wx => s7 = .int .i64 (E : Int) ∧ w.alloc (.cells #[.string ⟨#[]⟩,.string ⟨#[]⟩] 43) = wx)
  case first =>
    go_wp2_with fail
    go_loop [7] (fun u7 => ∃ i : Nat,i ≤ s.size ∧ u7 = .int .i64 (i : Int) ∧ Hid (E = i + M5.spanN npB (s.data.toList.drop i))) (fun u7 => s.size - (intOf u7).toNat)
    case atStart => exact ⟨at_,ha,rfl,hE⟩
    case round =>
      obtain ⟨i,hi,rfl,hv⟩:=hrel
      by_cases hil : i < s.size
      · have hB:=Lib.hid (fun w => hbl.out i hil w)
        have hst:=span_step npB s i hil
        have hnp : npB s[i] = !(M5.blankB s[i] || ((s[i].toNat : Int) == 47) || ((s[i].toNat : Int) == 62) || ((s[i].toNat : Int) == 61)):=by
          rw [show ((s[i].toNat : Int) == 47) = (s[i] == 47) from (eqI _ 47).symm,show ((s[i].toNat : Int) == 62) = (s[i] == 62) from (eqI _ 62).symm,show ((s[i].toNat : Int) == 61) = (s[i] == 61) from (eqI _ 61).symm]
          rfl
        rw [hnp] at hst
        clear hnp
        generalize M5.blankB s[i] = bl at *
        cases bl
        · cases h47 : ((s[i].toNat : Int) == 47)
          · have n47 : ((s[i].toNat : Int) != 47) = true:=by rw [bne,h47]; rfl
            cases h62 : ((s[i].toNat : Int) == 62)
            · have n62 : ((s[i].toNat : Int) != 62) = true:=by rw [bne,h62]; rfl
              cases h61 : ((s[i].toNat : Int) == 61)
              · have n61 : ((s[i].toNat : Int) != 61) = true:=by rw [bne,h61]; rfl
                have hv2 : Hid (E = i + 1 + M5.spanN npB (s.data.toList.drop (i + 1))):=by
                  show _ = _
                  rw [h47,h62,h61] at hst
                  have hst1 : M5.spanN npB (s.data.toList.drop i) = M5.spanN npB (s.data.toList.drop (i + 1)) + 1:=by rw [hst]; rfl
                  rw [hv.out,hst1]; omega
                clear hst
                go_wp2_with (go_at_call 91; refine (hB.out _).mono ?_; rintro e1 w1 ⟨rfl,rfl⟩)
                go_round
                case rel => exact ⟨i + 1,by omega,by go_num,hv2⟩
                case measure => exact rf_meas hil
              · have n61 : ((s[i].toNat : Int) != 61) = false:=by rw [bne,h61]; rfl
                have hst0 : M5.spanN npB (s.data.toList.drop i) = 0:=by rw [hst]; simp [h47,h62,h61]
                obtain rfl : E = i:=by rw [hv.out,hst0]; rfl
                clear hst hst0 hv
                go_wp2_with (go_at_call 91; refine (hB.out _).mono ?_; rintro e1 w1 ⟨rfl,rfl⟩)
                go_meet
                case rel => exact ⟨rfl,rfl⟩
            · have n62 : ((s[i].toNat : Int) != 62) = false:=by rw [bne,h62]; rfl
              have hst0 : M5.spanN npB (s.data.toList.drop i) = 0:=by rw [hst]; simp [h47,h62]
              obtain rfl : E = i:=by rw [hv.out,hst0]; rfl
              clear hst hst0 hv
              go_wp2_with (go_at_call 91; refine (hB.out _).mono ?_; rintro e1 w1 ⟨rfl,rfl⟩)
              go_meet
              case rel => exact ⟨rfl,rfl⟩
          · have n47 : ((s[i].toNat : Int) != 47) = false:=by rw [bne,h47]; rfl
            have hst0 : M5.spanN npB (s.data.toList.drop i) = 0:=by rw [hst]; simp [h47]
            obtain rfl : E = i:=by rw [hv.out,hst0]; rfl
            clear hst hst0 hv
            go_wp2_with (go_at_call 91; refine (hB.out _).mono ?_; rintro e1 w1 ⟨rfl,rfl⟩)
            go_meet
            case rel => exact ⟨rfl,rfl⟩
        · have hst0 : M5.spanN npB (s.data.toList.drop i) = 0:=by rw [hst]; simp
          obtain rfl : E = i:=by rw [hv.out,hst0]; rfl
          clear hst hst0 hv
          go_wp2_with (go_at_call 91; refine (hB.out _).mono ?_; rintro e1 w1 ⟨rfl,rfl⟩)
          go_meet
          case rel => exact ⟨rfl,rfl⟩
      · obtain rfl : i = s.size:=by omega
        obtain rfl : E = s.size:=by rw [hv.out,span_end _ s _ (Nat.le_refl _)]; rfl
        clear hv
        go_wp2_with fail
        go_meet
        case rel => exact ⟨rfl,rfl⟩
  case rest =>
    obtain ⟨rfl,rfl⟩:=hcut
    have hfx : Hid ((s.extract at_ E).data.toList = (s.data.toList.drop at_).take (E - at_)):=by show _ = _; rw [Lib.extract_data]
    go_upto_block 2 with (go_at_call 90; refine (ref01Fold (s.extract at_ E) _ (by rw [ByteArray.size_extract]; omega)).mono ?_; rintro e1 w1 ⟨rfl,hb1⟩)
    have b0 : Below w.heap.size w (w.alloc (.cells #[.string ⟨#[]⟩,.string ⟨#[]⟩] 43)):=(Below.refl _ _).alloc (Nat.le_refl _) _
    have bx0:=(Box.new w 43 [.string ⟨#[]⟩,.string ⟨#[]⟩]).below hb1 (by simp)
    have hz1:=hb1.size
    simp only [World.size_alloc] at hz1
    have hbw1 : Below w.heap.size w w1:=b0.trans (hb1.mono (by simp))
    have hnm : Hid ((⟨(M1.fold ((s.data.toList.drop at_).take (E - at_))).toArray⟩ : ByteArray) = M5.bs (M1.fold ((s.data.toList.drop at_).take (E - at_)))):=rfl
    generalize (⟨(M1.fold ((s.data.toList.drop at_).take (E - at_))).toArray⟩ : ByteArray) = nm at *
    have bxr : Box (w1.alloc (.cells #[.string nm,.string ⟨#[]⟩] 43)) w.heap.size 43 [.string ⟨#[]⟩,.string ⟨#[]⟩]:=bx0.alloc _
    have bxa : Box (w1.alloc (.cells #[.string nm,.string ⟨#[]⟩] 43)) w1.heap.size 43 [.string nm,.string ⟨#[]⟩]:=Box.new w1 43 [.string nm,.string ⟨#[]⟩]
    have hbW : Below w.heap.size w (w1.alloc (.cells #[.string nm,.string ⟨#[]⟩] 43)):=hbw1.alloc (by omega) _
    clear b0 bx0 hb1
    replace bxr:=Lib.hid bxr
    replace bxa:=Lib.hid bxa
    replace hbW:=Lib.hid hbW
    go_cut [9] (fun s9 wx => s9 = .int .i64 (I1 : Int) ∧ w1.alloc (.cells #[.string nm,.string ⟨#[]⟩] 43) = wx)
    case first =>
      go_wp2_with fail
      go_loop [9] (fun u => ∃ i : Nat,i ≤ s.size ∧ u = .int .i64 (i : Int) ∧ Hid (I1 = i + M5.spanN M5.blankB (s.data.toList.drop i))) (fun u => s.size - (intOf u).toNat)
      case atStart => exact ⟨E,hEs,rfl,h1⟩
      case round =>
        obtain ⟨i,hi,rfl,hv⟩:=hrel
        by_cases hil : i < s.size
        · have hB:=Lib.hid (fun w => hbl.out i hil w)
          have hst:=span_step M5.blankB s i hil
          generalize M5.blankB s[i] = bl at *
          cases bl
          · have hst0 : M5.spanN M5.blankB (s.data.toList.drop i) = 0:=by rw [hst]; rfl
            have hK : I1 = i:=by rw [hv.out,hst0]; rfl
            subst hK
            clear hst hst0 hv
            go_wp2_with (go_at_call 91; refine (hB.out _).mono ?_; rintro e1 w1 ⟨rfl,rfl⟩)
            go_meet
            case rel => exact ⟨rfl,rfl⟩
          · have hv2 : Hid (I1 = i + 1 + M5.spanN M5.blankB (s.data.toList.drop (i + 1))):=by
              show _ = _
              have hst1 : M5.spanN M5.blankB (s.data.toList.drop i) = M5.spanN M5.blankB (s.data.toList.drop (i + 1)) + 1:=by rw [hst]; rfl
              rw [hv.out,hst1]; omega
            clear hst
            go_wp2_with (go_at_call 91; refine (hB.out _).mono ?_; rintro e1 w1 ⟨rfl,rfl⟩)
            go_round
            case rel => exact ⟨i + 1,by omega,by go_num,hv2⟩
            case measure => exact rf_meas hil
        · obtain rfl : i = s.size:=by omega
          have hK : I1 = s.size:=by rw [hv.out,span_end _ s _ (Nat.le_refl _)]; rfl
          subst hK
          clear hv
          go_wp2_with fail
          go_meet
          case rel => exact ⟨rfl,rfl⟩
    case rest =>
      obtain ⟨rfl,rfl⟩:=hcut
      by_cases hI1 : ∀ h : I1 < s.size,s[I1] ≠ 61
      · have hres:=Lib.hid (attr_bare s at_ E I1 hE.out h1.out h1s hI1)
        have a0:=bxa.out.cell (i:=0) rfl
        have a1:=bxa.out.cell (i:=1) rfl
        have r0:=bxr.out.cell (i:=0) rfl
        have r1:=bxr.out.cell (i:=1) rfl
        have f0:=bxr.out.free 0
        have f1:=bxr.out.free 1
        have bxf:=Lib.hid (bxr.out.two (.string nm) (.string ⟨#[]⟩))
        have hbf:=Lib.hid (two_below hbW.out (g:=w.heap.size) (.string nm) (.string ⟨#[]⟩) (Nat.le_refl _))
        have htest : (decide (s.size ≤ I1) = true) ∨ (decide (s.size ≤ I1) = false ∧ I1 < s.size):=by
          by_cases h : s.size ≤ I1
          · exact .inl (decide_eq_true h)
          · exact .inr ⟨decide_eq_false h,by omega⟩
        rcases htest with htest | ⟨htest,hlt⟩
        · go_wp2_with fail
          have t0:=bxf.out.cell (i:=0) rfl
          have t1:=bxf.out.cell (i:=1) rfl
          exact bodyPost_ret (v:=.tuple #[.agg #[.string nm,.string ⟨#[]⟩],.int .i64 (I1 : Int),.bool true]) (by simp [results,Tryz.results101,go_sem,t0,t1]) rfl (attPost_mk (a:=⟨nm,⟨#[]⟩⟩) (k:=I1) (by rw [hres.out,← hnm.out]) h1s rfl hbf.out)
        · have hne : ((s[I1].toNat : Int) != 61) = true:=by rw [show ((s[I1].toNat : Int) != 61) = !(s[I1] == 61) from eqN _ 61]; simp [hI1 hlt]
          go_wp2_with fail
          have t0:=bxf.out.cell (i:=0) rfl
          have t1:=bxf.out.cell (i:=1) rfl
          exact bodyPost_ret (v:=.tuple #[.agg #[.string nm,.string ⟨#[]⟩],.int .i64 (I1 : Int),.bool true]) (by simp [results,Tryz.results101,go_sem,t0,t1]) rfl (attPost_mk (a:=⟨nm,⟨#[]⟩⟩) (k:=I1) (by rw [hres.out,← hnm.out]) h1s rfl hbf.out)
      · have hlt : I1 < s.size:=by
          rcases Nat.lt_or_ge I1 s.size with h | h
          · exact h
          · exact absurd (fun h2 => absurd h2 (Nat.not_lt.2 h)) hI1
        have h61 : s[I1] = 61:=by
          by_cases h : s[I1] = 61
          · exact h
          · exact absurd (fun _ => h) hI1
        clear hI1
        have heq:=Lib.hid (attr_eq s at_ E I1 hE.out h1.out hlt h61)
        have hne : ((s[I1].toNat : Int) != 61) = false:=by rw [h61]; rfl
        have htest : decide (s.size ≤ I1) = false:=decide_eq_false (by omega)
        obtain ⟨I2,h2⟩ : ∃ I,Hid (I = I1 + 1 + M5.spanN M5.blankB (s.data.toList.drop (I1 + 1))):=⟨_,rfl⟩
        have h2s : I2 ≤ s.size:=by rw [h2.out]; exact span_bound _ s (I1 + 1) (by omega)
        replace h61:=Lib.hid h61
        go_upto_block 4 with fail
        go_cut [9] (fun s9 wx => s9 = .int .i64 (I2 : Int) ∧ w1.alloc (.cells #[.string nm,.string ⟨#[]⟩] 43) = wx)
        case first =>
          go_wp2_with fail
          go_loop [9] (fun u => ∃ i : Nat,i ≤ s.size ∧ u = .int .i64 (i : Int) ∧ Hid (I2 = i + M5.spanN M5.blankB (s.data.toList.drop i))) (fun u => s.size - (intOf u).toNat)
          case atStart => exact ⟨I1 + 1,by omega,by go_num,h2⟩
          case round =>
            obtain ⟨i,hi,rfl,hv⟩:=hrel
            by_cases hil : i < s.size
            · have hB:=Lib.hid (fun w => hbl.out i hil w)
              have hst:=span_step M5.blankB s i hil
              generalize M5.blankB s[i] = bl at *
              cases bl
              · have hst0 : M5.spanN M5.blankB (s.data.toList.drop i) = 0:=by rw [hst]; rfl
                have hK : I2 = i:=by rw [hv.out,hst0]; rfl
                subst hK
                clear hst hst0 hv
                go_wp2_with (go_at_call 91; refine (hB.out _).mono ?_; rintro e1 w1 ⟨rfl,rfl⟩)
                go_meet
                case rel => exact ⟨rfl,rfl⟩
              · have hv2 : Hid (I2 = i + 1 + M5.spanN M5.blankB (s.data.toList.drop (i + 1))):=by
                  show _ = _
                  have hst1 : M5.spanN M5.blankB (s.data.toList.drop i) = M5.spanN M5.blankB (s.data.toList.drop (i + 1)) + 1:=by rw [hst]; rfl
                  rw [hv.out,hst1]; omega
                clear hst
                go_wp2_with (go_at_call 91; refine (hB.out _).mono ?_; rintro e1 w1 ⟨rfl,rfl⟩)
                go_round
                case rel => exact ⟨i + 1,by omega,by go_num,hv2⟩
                case measure => exact rf_meas hil
            · obtain rfl : i = s.size:=by omega
              have hK : I2 = s.size:=by rw [hv.out,span_end _ s _ (Nat.le_refl _)]; rfl
              subst hK
              clear hv
              go_wp2_with fail
              go_meet
              case rel => exact ⟨rfl,rfl⟩
        case rest =>
          obtain ⟨rfl,rfl⟩:=hcut
          clear hne htest
          by_cases hq : ∃ h : I2 < s.size,(s[I2] = 34 ∨ s[I2] = 39)
          · obtain ⟨hlt2,hq⟩:=hq
            have hval:=Lib.hid (value_quote s (M5.bs (M1.fold ((s.data.toList.drop at_).take (E - at_)))) (I1 + 1) I2 h2.out hlt2 hq)
            have hxq : (s.extract I2 (I2 + 1)).data.toList = [s[I2]]:=by
              rw [Lib.extract_data,drop_cons s I2 hlt2,show I2 + 1 - I2 = 1 by omega]
              rfl
            have hF:=Lib.hid (show Calls Tryz.prog 88 #[.string s,.int .i64 ((I2 : Int) + 1),.string (s.extract I2 (I2 + 1))] (w1.alloc (.cells #[.string nm,.string ⟨#[]⟩] 43)) (PosPost (I2 + 1 + M5.findL [s[I2]] (s.data.toList.drop (I2 + 1))) (w1.alloc (.cells #[.string nm,.string ⟨#[]⟩] 43))) from by
              have:=ref05find s (s.extract I2 (I2 + 1)) (I2 + 1) (w1.alloc (.cells #[.string nm,.string ⟨#[]⟩] 43)) hs (by rw [ByteArray.size_extract]; omega) (by rw [ByteArray.size_extract]; omega) (by omega)
              rw [hxq] at this
              exact this)
            have hfl:=M5.findL_le [s[I2]] (s.data.toList.drop (I2 + 1))
            have hll : (s.data.toList.drop (I2 + 1)).length = s.size - (I2 + 1):=by rw [List.length_drop]; rfl
            rw [hll] at hfl
            have hv2 : Hid (M5.valueAt (M5.bs (M1.fold ((s.data.toList.drop at_).take (E - at_)))) (s.data.toList.drop (I1 + 1)) = if M5.findL [s[I2]] (s.data.toList.drop (I2 + 1)) < s.size - (I2 + 1) then (⟨M5.bs (M1.fold ((s.data.toList.drop at_).take (E - at_))),M5.bs (M2.decode ((s.data.toList.drop (I2 + 1)).take (M5.findL [s[I2]] (s.data.toList.drop (I2 + 1)))))⟩,s.data.toList.drop (I2 + 1 + M5.findL [s[I2]] (s.data.toList.drop (I2 + 1)) + 1),true) else (⟨M5.bs (M1.fold ((s.data.toList.drop at_).take (E - at_))),⟨#[]⟩⟩,[],false)):=by
              show _ = _
              rw [hval.out,hll,List.drop_drop]
              rw [show I2 + 1 + (M5.findL [s[I2]] (s.data.toList.drop (I2 + 1)) + 1) = I2 + 1 + M5.findL [s[I2]] (s.data.toList.drop (I2 + 1)) + 1 by omega]
            clear hval hll
            obtain ⟨L,hL⟩ : ∃ L,M5.findL [s[I2]] (s.data.toList.drop (I2 + 1)) = L:=⟨_,rfl⟩
            rw [hL] at hF hv2 hfl
            have q34 : ((s[I2].toNat : Int) == 34) = (s[I2] == 34):=(eqI _ 34).symm
            have q39 : ((s[I2].toNat : Int) == 39) = (s[I2] == 39):=(eqI _ 39).symm
            have hqt : ((s[I2].toNat : Int) == 34) = true ∨ (((s[I2].toNat : Int) == 34) = false ∧ ((s[I2].toNat : Int) == 39) = true):=by
              rw [q34,q39]
              by_cases h : s[I2] = 34
              · exact .inl (by simp [h])
              · exact .inr ⟨by simp [h],by rcases hq with h' | h'; exact absurd h' h; simp [h']⟩
            replace hL:=Lib.hid hL
            replace hq:=Lib.hid hq
            replace hxq:=Lib.hid hxq
            clear q34 q39
            rcases hqt with hqt | ⟨hqt,hqt2⟩
            all_goals
              go_wp2_with fail
              refine hF.out.mono ?_
              rintro e1 w' ⟨rfl,rfl⟩
              clear hF
              by_cases hf : L < s.size - (I2 + 1)
              · rw [if_pos hf] at hv2
                have hd : decide (s.size ≤ I2 + 1 + L) = false:=decide_eq_false (by omega)
                go_wp2_with fail
                have hsx : (s.extract (I2 + 1) (I2 + 1 + L)).size ≤ 1073741824:=by rw [ByteArray.size_extract]; omega
                refine (ref02Decode _ _ hsx).mono ?_
                rintro e1 w2 ⟨rfl,hb2⟩
                have bxr2:=Lib.hid (bxr.out.below hb2 (by simp; omega))
                have bxa2:=Lib.hid (bxa.out.below hb2 (by simp))
                have hbW2:=Lib.hid (bt hbW.out hb2)
                have hz2:=hb2.size
                simp only [World.size_alloc] at hz2
                have hdv : Hid ((⟨(M2.decode ((s.data.toList.drop (I2 + 1)).take (I2 + 1 + L - (I2 + 1)))).toArray⟩ : ByteArray) = M5.bs (M2.decode ((s.data.toList.drop (I2 + 1)).take (I2 + 1 + L - (I2 + 1))))):=rfl
                rw [show (s.extract (I2 + 1) (I2 + 1 + L)).data.toList = (s.data.toList.drop (I2 + 1)).take (I2 + 1 + L - (I2 + 1)) from Lib.extract_data _ _ _]
                generalize (⟨(M2.decode ((s.data.toList.drop (I2 + 1)).take (I2 + 1 + L - (I2 + 1)))).toArray⟩ : ByteArray) = vv at *
                have bxv:=bxa2.out.set 1 (.string vv)
                simp only [List.set_cons_succ,List.set_cons_zero] at bxv
                have v0:=bxv.cell (i:=0) rfl
                have v1:=bxv.cell (i:=1) rfl
                have bxr3:=bxr2.out.far (p:=⟨w1.heap.size,1,none⟩) (by simp; omega) (.string vv)
                have r0:=bxr3.cell (i:=0) rfl
                have r1:=bxr3.cell (i:=1) rfl
                have f0:=bxr3.free 0
                have f1:=bxr3.free 1
                have k1:=bxa2.out.cell (i:=1) rfl
                have kf:=bxa2.out.free 1
                have bxf:=Lib.hid (bxr3.two (.string nm) (.string vv))
                have hbf:=Lib.hid (two_below (hbW2.out.setCell (p:=⟨w1.heap.size,1,none⟩) (by show w.heap.size ≤ w1.heap.size; omega) (.string vv)) (g:=w.heap.size) (.string nm) (.string vv) (Nat.le_refl _))
                clear hb2 hsx
                go_wp2_with fail
                have t0:=bxf.out.cell (i:=0) rfl
                have t1:=bxf.out.cell (i:=1) rfl
                exact bodyPost_ret (v:=.tuple #[.agg #[.string nm,.string vv],.int .i64 ((I2 : Int) + 1 + (L : Int) + 1),.bool true]) (by simp [results,Tryz.results101,go_sem,t0,t1]) rfl (attPost_mk (a:=⟨nm,vv⟩) (k:=I2 + 1 + L + 1) (by rw [heq.out,hv2.out,← hnm.out,hdv.out,Nat.add_sub_cancel_left]) (show I2 + 1 + L + 1 ≤ s.size by omega) rfl hbf.out)
              · rw [if_neg hf] at hv2
                have hd : decide (s.size ≤ I2 + 1 + L) = true:=decide_eq_true (by omega)
                have a0:=bxa.out.cell (i:=0) rfl
                have a1:=bxa.out.cell (i:=1) rfl
                have r0:=bxr.out.cell (i:=0) rfl
                have r1:=bxr.out.cell (i:=1) rfl
                have f0:=bxr.out.free 0
                have f1:=bxr.out.free 1
                have bxf:=Lib.hid (bxr.out.two (.string nm) (.string ⟨#[]⟩))
                have hbf:=Lib.hid (two_below hbW.out (g:=w.heap.size) (.string nm) (.string ⟨#[]⟩) (Nat.le_refl _))
                go_wp2_with fail
                have t0:=bxf.out.cell (i:=0) rfl
                have t1:=bxf.out.cell (i:=1) rfl
                exact bodyPost_ret (v:=.tuple #[.agg #[.string nm,.string ⟨#[]⟩],.int .i64 (s.size : Int),.bool false]) (by simp [results,Tryz.results101,go_sem,t0,t1]) rfl (attPost_mk (a:=⟨nm,⟨#[]⟩⟩) (k:=s.size) (by rw [heq.out,hv2.out,← hnm.out,drop_end s s.size (Nat.le_refl _)]) (Nat.le_refl _) rfl hbf.out)
          · obtain ⟨V,hV⟩ : ∃ V,Hid (V = I2 + M5.spanN nvB (s.data.toList.drop I2)):=⟨_,rfl⟩
            have hVs : V ≤ s.size:=by rw [hV.out]; exact span_bound _ s I2 h2s
            have hVa : I2 ≤ V:=by rw [hV.out]; omega
            have hv2 : Hid (M5.valueAt (M5.bs (M1.fold ((s.data.toList.drop at_).take (E - at_)))) (s.data.toList.drop (I1 + 1)) = (⟨M5.bs (M1.fold ((s.data.toList.drop at_).take (E - at_))),M5.bs (M2.decode ((s.data.toList.drop I2).take (V - I2)))⟩,s.data.toList.drop V,true)):=by
              show _ = _
              by_cases hlt2 : I2 < s.size
              · rw [value_bare s _ (I1 + 1) I2 h2.out hlt2 (fun h => hq ⟨hlt2,h⟩),← hV.out,show V - I2 = M5.spanN nvB (s.data.toList.drop I2) by have:=hV.out; omega]
              · have e1 : I2 = s.size:=by omega
                have e2 : V = s.size:=by omega
                rw [value_end s _ (I1 + 1) I2 h2.out (by omega),e1,e2,drop_end s s.size (Nat.le_refl _)]
                rw [List.take_nil]
            have hqt : (decide (I2 < s.size) = false) ∨ (∃ h : I2 < s.size,decide (I2 < s.size) = true ∧ ((s[I2].toNat : Int) == 34) = false ∧ ((s[I2].toNat : Int) == 39) = false):=by
              by_cases hlt2 : I2 < s.size
              · refine .inr ⟨hlt2,decide_eq_true hlt2,?_,?_⟩
                · rw [show ((s[I2].toNat : Int) == 34) = (s[I2] == 34) from (eqI _ 34).symm]
                  have : s[I2] ≠ 34:=fun h => hq ⟨hlt2,.inl h⟩
                  simp [this]
                · rw [show ((s[I2].toNat : Int) == 39) = (s[I2] == 39) from (eqI _ 39).symm]
                  have : s[I2] ≠ 39:=fun h => hq ⟨hlt2,.inr h⟩
                  simp [this]
              · exact .inl (decide_eq_false hlt2)
            clear hq
            rcases hqt with hqt | ⟨hlt2,hqt,hq34,hq39⟩
            all_goals
              go_upto_block 6 with fail
              go_cut [11] (fun s11 wx => s11 = .int .i64 (V : Int) ∧ w1.alloc (.cells #[.string nm,.string ⟨#[]⟩] 43) = wx)
              case first =>
                go_wp2_with fail
                go_loop [11] (fun u => ∃ i : Nat,i ≤ s.size ∧ u = .int .i64 (i : Int) ∧ Hid (V = i + M5.spanN nvB (s.data.toList.drop i))) (fun u => s.size - (intOf u).toNat)
                case atStart => exact ⟨I2,h2s,rfl,hV⟩
                case round =>
                  obtain ⟨i,hi,rfl,hv⟩:=hrel
                  by_cases hil : i < s.size
                  · have hB:=Lib.hid (fun w => hbl.out i hil w)
                    have hst:=span_step nvB s i hil
                    have hnp : nvB s[i] = (!M5.blankB s[i] && !((s[i].toNat : Int) == 62)):=by
                      rw [show ((s[i].toNat : Int) == 62) = (s[i] == 62) from (eqI _ 62).symm]
                      rfl
                    rw [hnp] at hst
                    clear hnp
                    generalize M5.blankB s[i] = bl at *
                    cases bl
                    · cases h62 : ((s[i].toNat : Int) == 62)
                      · have n62 : ((s[i].toNat : Int) != 62) = true:=by rw [bne,h62]; rfl
                        have hv3 : Hid (V = i + 1 + M5.spanN nvB (s.data.toList.drop (i + 1))):=by
                          show _ = _
                          rw [h62] at hst
                          have hst1 : M5.spanN nvB (s.data.toList.drop i) = M5.spanN nvB (s.data.toList.drop (i + 1)) + 1:=by rw [hst]; rfl
                          rw [hv.out,hst1]; omega
                        clear hst
                        go_wp2_with (go_at_call 91; refine (hB.out _).mono ?_; rintro e1 w1 ⟨rfl,rfl⟩)
                        go_round
                        case rel => exact ⟨i + 1,by omega,by go_num,hv3⟩
                        case measure => exact rf_meas hil
                      · have n62 : ((s[i].toNat : Int) != 62) = false:=by rw [bne,h62]; rfl
                        have hst0 : M5.spanN nvB (s.data.toList.drop i) = 0:=by rw [hst]; simp [h62]
                        have hK : V = i:=by rw [hv.out,hst0]; rfl
                        subst hK
                        clear hst hst0 hv
                        go_wp2_with (go_at_call 91; refine (hB.out _).mono ?_; rintro e1 w1 ⟨rfl,rfl⟩)
                        go_meet
                        case rel => exact ⟨rfl,rfl⟩
                    · have hst0 : M5.spanN nvB (s.data.toList.drop i) = 0:=by rw [hst]; simp
                      have hK : V = i:=by rw [hv.out,hst0]; rfl
                      subst hK
                      clear hst hst0 hv
                      go_wp2_with (go_at_call 91; refine (hB.out _).mono ?_; rintro e1 w1 ⟨rfl,rfl⟩)
                      go_meet
                      case rel => exact ⟨rfl,rfl⟩
                  · obtain rfl : i = s.size:=by omega
                    have hK : V = s.size:=by rw [hv.out,span_end _ s _ (Nat.le_refl _)]; rfl
                    subst hK
                    clear hv
                    go_wp2_with fail
                    go_meet
                    case rel => exact ⟨rfl,rfl⟩
              case rest =>
                obtain ⟨rfl,rfl⟩:=hcut
                go_wp2_with fail
                have hsx : (s.extract (I2) (V)).size ≤ 1073741824:=by rw [ByteArray.size_extract]; omega
                refine (ref02Decode _ _ hsx).mono ?_
                rintro e1 w2 ⟨rfl,hb2⟩
                have bxr2:=Lib.hid (bxr.out.below hb2 (by simp; omega))
                have bxa2:=Lib.hid (bxa.out.below hb2 (by simp))
                have hbW2:=Lib.hid (bt hbW.out hb2)
                have hz2:=hb2.size
                simp only [World.size_alloc] at hz2
                have hdv : Hid ((⟨(M2.decode ((s.data.toList.drop (I2)).take (V - (I2)))).toArray⟩ : ByteArray) = M5.bs (M2.decode ((s.data.toList.drop (I2)).take (V - (I2))))):=rfl
                rw [show (s.extract (I2) (V)).data.toList = (s.data.toList.drop (I2)).take (V - (I2)) from Lib.extract_data _ _ _]
                generalize (⟨(M2.decode ((s.data.toList.drop (I2)).take (V - (I2)))).toArray⟩ : ByteArray) = vv at *
                have bxv:=bxa2.out.set 1 (.string vv)
                simp only [List.set_cons_succ,List.set_cons_zero] at bxv
                have v0:=bxv.cell (i:=0) rfl
                have v1:=bxv.cell (i:=1) rfl
                have bxr3:=bxr2.out.far (p:=⟨w1.heap.size,1,none⟩) (by simp; omega) (.string vv)
                have r0:=bxr3.cell (i:=0) rfl
                have r1:=bxr3.cell (i:=1) rfl
                have f0:=bxr3.free 0
                have f1:=bxr3.free 1
                have k1:=bxa2.out.cell (i:=1) rfl
                have kf:=bxa2.out.free 1
                have bxf:=Lib.hid (bxr3.two (.string nm) (.string vv))
                have hbf:=Lib.hid (two_below (hbW2.out.setCell (p:=⟨w1.heap.size,1,none⟩) (by show w.heap.size ≤ w1.heap.size; omega) (.string vv)) (g:=w.heap.size) (.string nm) (.string vv) (Nat.le_refl _))
                clear hb2 hsx
                go_wp2_with fail
                have t0:=bxf.out.cell (i:=0) rfl
                have t1:=bxf.out.cell (i:=1) rfl
                exact bodyPost_ret (v:=.tuple #[.agg #[.string nm,.string vv],.int .i64 (V : Int),.bool true]) (by simp [results,Tryz.results101,go_sem,t0,t1]) rfl (attPost_mk (a:=⟨nm,vv⟩) (k:=V) (by rw [heq.out,hv2.out,← hnm.out,hdv.out]) hVs rfl hbf.out)
end Go.Proofs.YteefodibpjgicaaGreat
