/- Texts joined: Tok12, Tok13. -/
import Derived.Test.YteefodibpjgicaaGreatA10
import Derived.Test.YteefodibpjgicaaGreatA12
import Derived.Test.YteefodibpjgicaaGreatA39
import Derived.Test.YteefodibpjgicaaGreatA45
namespace Go.Proofs.YteefodibpjgicaaGreat
open Go.RowKit Kmp
theorem flat_edge : Flat edgeB:=flat_of (by decide +kernel)
theorem flat_ask (q : UInt8 → Bool) (hq : Flat q) (c : UInt8) : q c = askR q c.toNat:=by
  by_cases h : c.toNat < 128
  · rw [ask_low q c h]
  · unfold askR
    rw [if_neg h,hq c (by omega)]
set_option maxHeartbeats 4000000 in
set_option maxRecDepth 100000 in
theorem tokEnds (s nm : ByteArray) (w : World) (hs : s.size ≤ 1073741824) (hn : nm.size ≤ 1073741824) :
    Calls Tryz.prog 168 #[.string s,.string nm] w (EndsPost (M5.endsL ([60,47] ++ nm.data.toList) s.data.toList) w):=by
  obtain ⟨wd,hwd⟩ : ∃ wd : List UInt8,wd = [60,47] ++ nm.data.toList:=⟨_,rfl⟩
  have hwl : wd.length = 2 + nm.size:=by rw [hwd,List.length_append]; show 2 + nm.size = _; rfl
  have hW : (⟨#[60,47]⟩ : ByteArray) ++ nm = M5.bs wd:=by
    apply ByteArray.ext
    apply Array.ext'
    rw [M5.bs_data,hwd,ByteArray.data_append,Array.toList_append]
  rw [← hwd]
  have hsl : s.data.toList.length = s.size:=rfl
  obtain ⟨R,hR⟩ : ∃ R,Hid (R = M5.endsL wd s.data.toList):=⟨_,rfl⟩
  rw [← hR.out]
  have hF:=Lib.hid (fun w => tokFollow wd w (by omega) (by omega))
  have hadd : ¬ 9223372036854775807 < 2 + nm.size:=by omega
  have hE : ∀ (args : Array Value) (w : World),(callFunc 190 args).run Tryz.prog w = .ok (.enter 190 args) w:=enters_of Tryz.func190 (by kernel_rfl) rfl
  have hbz : (M5.bs wd).size = wd.length:=bs_size wd
  have hwb1 : 0 < wd.length:=by omega
  have hwb2 : wd.length ≤ 1073741826:=by omega
  replace hwd:=Lib.hid hwd
  obtain ⟨wo,rfl⟩ : ∃ wo : World,wo = w:=⟨_,rfl⟩
  go_enter Tryz.func168,Tryz.ntmps168
  go_wp2_with fail
  replace hwl:=Lib.hid hwl
  refine (hF.out _).mono ?_
  rintro e1 w1 ⟨bk,g1,g2,ga,rfl,hm,ht,hb1⟩
  replace ht:=Lib.hid ht
  go_wp2_with fail
  go_loopw [7,15] (fun u7 u15 wr => ∃ (i h : Nat),u7 = .int .i64 (h : Int) ∧ u15 = .int .i64 (i : Int) ∧ i ≤ s.size ∧ FMem wd bk g1 g2 ga wr ∧ Hid (IsL wd (M1.fold (s.data.toList.take i)) h) ∧ Hid (∀ k,k + wd.length < i → ¬ Hit wd s.data.toList k) ∧ Below wo.heap.size wo wr) (fun _ u15 _ => s.size - (intOf u15).toNat)
  case atStart => exact ⟨0,0,rfl,rfl,Nat.zero_le _,hm,Lib.hid (isL_nil wd),Lib.hid (fun k hk => by omega),hb1⟩
  case round =>
    obtain ⟨i,h,rfl,rfl,hi,hm,hL,hno,hbw⟩:=hrel
    by_cases hlt : i < s.size
    · have hh : h ≤ wd.length:=hL.out.1
      have hx : (s.extract i s.size).size = s.size - i:=by rw [ByteArray.size_extract]; omega
      have hc0 : ∀ h : 0 < (s.extract i s.size).size,(s.extract i s.size)[0] = s[i]:=fun h => by
        have h1:=drop_cons (s.extract i s.size) 0 h
        rw [List.drop_zero,Lib.extract_data,List.take_of_length_le (by rw [List.length_drop]; exact Nat.le_refl _),drop_cons s i hlt] at h1
        exact (List.cons.inj h1).1.symm
      have hS : Hid (∀ w',FMem wd bk g1 g2 ga w' → Calls Tryz.prog 190 #[.int .i64 (h : Int),.string (s.extract i s.size),.pointer (some ⟨g1,0,none⟩),.pointer (some ⟨g2,0,none⟩)] w' (StepPost wd h s[i] w')):=Lib.hid (fun w' hm' => by
        have h0 : 0 < (s.extract i s.size).size:=by omega
        have:=tokStep wd bk h wd.length (s.extract i s.size) w' g1 g2 ga hm' (by omega) (by omega) hh hh ht.out h0 (by omega)
        rw [hc0 h0] at this
        exact this)
      have hLe : Hid (∀ w,Calls Tryz.prog 180 #[.int .i32 (wrap32 (s[i].toNat : Int))] w (BoolPost (edgeB s[i]) w)):=Lib.hid (fun w => by
        rw [wrap32_byte]
        have:=tokLeaves s[i].toNat w
        rwa [← flat_ask edgeB flat_edge] at this)
      have hgo : (h = wd.length ∧ edgeB s[i] = true → False) → ∀ r,Strides wd h s[i] r → Hid (IsL wd (M1.fold (s.data.toList.take (i + 1))) r) ∧ Hid (∀ k,k + wd.length < i + 1 → ¬ Hit wd s.data.toList k):=fun hne r hr => by
        refine ⟨Lib.hid ?_,Lib.hid (fun k hk hh' => ?_)⟩
        · have e:=fold_snoc s.data.toList i hlt
          have:=hr.2.2 _ (low_fold _) hL.out
          rw [e]
          exact this
        · rcases Nat.lt_or_ge (k + wd.length) i with hk2 | hk2
          · exact hno.out k hk2 hh'
          · have hki : k = i - wd.length:=by omega
            rw [hki] at hh'
            exact hne ((hit_iff hlt hL.out (by omega)).1 hh')
      by_cases hhn : h = wd.length
      · have ekn : ((h : Int) == (wd.length : Int)) = true:=by rw [beq_iff_eq]; omega
        cases hed : edgeB s[i]
        · rw [hed] at hLe hgo
          have hgo2:=Lib.hid (hgo (fun e => by cases e.2))
          replace hhn:=Lib.hid hhn
          clear hgo hc0
          go_wp2_with fail
          refine (hLe.out _).mono ?_
          rintro e1 w2 ⟨rfl,rfl⟩
          go_wp2_with fail
          refine (hS.out _ hm).mono ?_
          rintro e1 w2 ⟨r,hr,rfl,hb2⟩
          obtain ⟨hL2,hno2⟩:=hgo2.out r hr
          have hm2:=Lib.hid (hm.below hb2)
          have hbw2:=Lib.hid (bt hbw hb2)
          clear hm hbw hb2
          go_wp2_with fail
          go_roundw
          case rel => exact ⟨i + 1,r,rfl,by go_num,by omega,hm2.out,hL2,hno2,hbw2.out⟩
          case measure => exact rf_meas hlt
        · have hni : wd.length ≤ i:=by
            have:=hL.out.2.1.length_le
            rw [hhn,List.take_length] at this
            unfold M1.fold at this
            rw [List.length_map,List.length_take] at this
            omega
          have hres : R = some (i - wd.length):=by
            rw [hR.out]
            exact ends_some wd _ _ ((hit_iff hlt hL.out hni).2 ⟨hhn,hed⟩) (fun k hk => hno.out k (by omega))
          rw [hed] at hLe
          replace hres:=Lib.hid hres
          clear hgo hc0
          go_wp2_with fail
          refine (hLe.out _).mono ?_
          rintro e1 w2 ⟨rfl,rfl⟩
          go_wp2_with fail
          go_ret
          exact ⟨by rw [hres.out]; show _ = Ending.returned (.int .i64 ((i - wd.length : Nat) : Int)); rw [Int.ofNat_sub hni]; rfl,hbw⟩
      · have ekn : ((h : Int) == (wd.length : Int)) = false:=by rw [beq_eq_false_iff_ne]; omega
        have hgo2:=Lib.hid (hgo (fun e => hhn e.1))
        replace hhn:=Lib.hid hhn
        clear hgo hc0
        go_wp2_with fail
        refine (hS.out _ hm).mono ?_
        rintro e1 w2 ⟨r,hr,rfl,hb2⟩
        obtain ⟨hL2,hno2⟩:=hgo2.out r hr
        have hm2:=Lib.hid (hm.below hb2)
        have hbw2:=Lib.hid (bt hbw hb2)
        clear hm hbw hb2
        go_wp2_with fail
        go_roundw
        case rel => exact ⟨i + 1,r,rfl,by go_num,by omega,hm2.out,hL2,hno2,hbw2.out⟩
        case measure => exact rf_meas hlt
    · have hres : R = none:=by
        rw [hR.out]
        exact ends_none wd _ (fun k hk => hno.out k (by obtain ⟨_,h2,_⟩:=hk; omega) hk)
      replace hres:=Lib.hid hres
      go_wp2_with fail
      go_ret
      exact ⟨by rw [hres.out]; rfl,hbw⟩
theorem ends_le (wd : List UInt8) : ∀ (l : List UInt8) (k : Nat),M5.endsL wd l = some k → k ≤ l.length:=by
  intro l
  induction l with
  | nil => intro k h; cases h
  | cons c r ih =>
    intro k h
    by_cases h0 : Hit wd (c :: r) 0
    · rw [(ends_cons wd c r).1 h0] at h
      cases h
      exact Nat.zero_le _
    · rw [(ends_cons wd c r).2 h0] at h
      cases hr : M5.endsL wd r with
      | none => rw [hr] at h; cases h
      | some j =>
        rw [hr] at h
        have:=ih j hr
        have h' : j + 1 = k:=by simpa using h
        simp only [List.length_cons]
        omega
set_option maxHeartbeats 4000000 in
set_option maxRecDepth 100000 in
theorem tokContent (s nm : ByteArray) (w : World) (hs : s.size ≤ 1073741824) (hn : nm.size ≤ 1073741824) :
    Calls Tryz.prog 160 #[.string s,.string nm] w (TokPost (M5.contC (M5.endN nm.data.toList s.data.toList) s.data.toList) (M5.endN nm.data.toList s.data.toList) w):=by
  have hE:=Lib.hid (fun w => tokEnds s nm w hs hn)
  obtain ⟨N,hN⟩ : ∃ N,Hid (N = M5.endN nm.data.toList s.data.toList):=⟨_,rfl⟩
  rw [← hN.out]
  have hNv : Hid (N = match M5.endsL ([60,47] ++ nm.data.toList) s.data.toList with | some k => k | none => s.size):=by
    show _ = _
    rw [hN.out]
    unfold M5.endN
    try (cases M5.endsL ([60,47] ++ nm.data.toList) s.data.toList <;> rfl)
  have hNs : N ≤ s.size:=by
    rw [hNv.out]
    cases he : M5.endsL ([60,47] ++ nm.data.toList) s.data.toList with
    | none => exact Nat.le_refl _
    | some k => exact ends_le _ _ k he
  have hx : Hid (M5.bs (s.data.toList.take N) = s.extract 0 N):=by show _ = _; rw [bs_cut,List.drop_zero,Nat.sub_zero]
  have hC:=Lib.hid (fun w => sClone (s.extract 0 N) w (by rw [ByteArray.size_extract]; omega))
  obtain ⟨wo,rfl⟩ : ∃ wo : World,wo = w:=⟨_,rfl⟩
  have bx0:=Box.new wo 87 [.int .i64 0,.string ⟨#[]⟩,.slice none 0 0,.string ⟨#[]⟩]
  have hb0:=Lib.hid ((Below.refl _ wo).alloc (Nat.le_refl _) (.cells #[.int .i64 0,.string ⟨#[]⟩,.slice none 0 0,.string ⟨#[]⟩] 87))
  cases he : M5.endsL ([60,47] ++ nm.data.toList) s.data.toList with
  | none =>
    rw [he] at hNv
    have hNe : N = s.size:=hNv.out
    have hEv : endV none = -1:=rfl
    by_cases hz : N = 0
    · have hT : Hid (M5.contC N s.data.toList = M5.zero):=by show _ = _; rw [M5.contC,if_pos hz]
      rw [hT.out]
      go_enter Tryz.func160,Tryz.ntmps160
      go_wp2_with fail
      refine (hE.out _).mono ?_
      rintro e1 w1 ⟨rfl,hb1⟩
      rw [he,hEv]
      have bx1:=bx0.below hb1 bx0.lt
      have hbW1:=Lib.hid (bt hb0.out hb1)
      have z0:=bx1.cell (i:=0) rfl
      have z1:=bx1.cell (i:=1) rfl
      have z2:=bx1.cell (i:=2) rfl
      have z3:=bx1.cell (i:=3) rfl
      have fz:=bx1.free
      have bf:=Lib.hid (bx1.four (.int .i64 0) (.string ⟨#[]⟩) (.slice none 0 0) (.string ⟨#[]⟩))
      clear hb1
      go_wp2_with fail
      have q0:=bf.out.cell (i:=0) rfl
      have q1:=bf.out.cell (i:=1) rfl
      have q2:=bf.out.cell (i:=2) rfl
      have q3:=bf.out.cell (i:=3) rfl
      exact bodyPost_ret (v:=.tuple #[.agg #[.int .i64 0,.string ⟨#[]⟩,.slice none 0 0,.string ⟨#[]⟩],.int .i64 0]) (by simp [results,Tryz.results160,go_sem,q0,q1,q2,q3]) rfl (tokPost_nil (by omega) (four_below hbW1.out _ _ _ _ (Nat.le_refl _)))
    · have hxs : s.extract 0 N = s:=by rw [hNe,ByteArray.extract_zero_size]
      rw [hxs] at hC
      have hT : Hid (M5.contC N s.data.toList = ⟨3,⟨#[]⟩,[],s⟩):=by show _ = _; rw [M5.contC,if_neg hz,hx.out,hxs]
      rw [hT.out]
      go_enter Tryz.func160,Tryz.ntmps160
      go_wp2_with fail
      refine (hE.out _).mono ?_
      rintro e1 w1 ⟨rfl,hb1⟩
      rw [he,hEv]
      have bx1:=bx0.below hb1 bx0.lt
      have hbW1:=Lib.hid (bt hb0.out hb1)
      go_wp2_with fail
      refine (hC.out _).mono ?_
      rintro e1 w2 ⟨rfl,hb2⟩
      have bx2:=bx1.below hb2 bx1.lt
      have hbW2:=Lib.hid (bt hbW1.out hb2)
      have z0:=bx2.cell (i:=0) rfl
      have z1:=bx2.cell (i:=1) rfl
      have z2:=bx2.cell (i:=2) rfl
      have z3:=bx2.cell (i:=3) rfl
      have fz:=bx2.free
      have bf:=Lib.hid (bx2.four (.int .i64 3) (.string ⟨#[]⟩) (.slice none 0 0) (.string (s)))
      clear hb1 hb2
      go_wp2_with fail
      have q0:=bf.out.cell (i:=0) rfl
      have q1:=bf.out.cell (i:=1) rfl
      have q2:=bf.out.cell (i:=2) rfl
      have q3:=bf.out.cell (i:=3) rfl
      exact bodyPost_ret (v:=.tuple #[.agg #[.int .i64 3,.string ⟨#[]⟩,.slice none 0 0,.string (s)],.int .i64 (s.size : Int)]) (by simp [results,Tryz.results160,go_sem,q0,q1,q2,q3]) rfl (tokPost_nil (by omega) (four_below hbW2.out _ _ _ _ (Nat.le_refl _)))
  | some k =>
    rw [he] at hNv
    obtain rfl : N = k:=hNv.out
    have hEv : endV (some N) = (N : Int):=rfl
    by_cases hz : N = 0
    · have hT : Hid (M5.contC N s.data.toList = M5.zero):=by show _ = _; rw [M5.contC,if_pos hz]
      rw [hT.out]
      go_enter Tryz.func160,Tryz.ntmps160
      go_wp2_with fail
      refine (hE.out _).mono ?_
      rintro e1 w1 ⟨rfl,hb1⟩
      rw [he,hEv]
      have bx1:=bx0.below hb1 bx0.lt
      have hbW1:=Lib.hid (bt hb0.out hb1)
      have z0:=bx1.cell (i:=0) rfl
      have z1:=bx1.cell (i:=1) rfl
      have z2:=bx1.cell (i:=2) rfl
      have z3:=bx1.cell (i:=3) rfl
      have fz:=bx1.free
      have bf:=Lib.hid (bx1.four (.int .i64 0) (.string ⟨#[]⟩) (.slice none 0 0) (.string ⟨#[]⟩))
      clear hb1
      go_wp2_with fail
      have q0:=bf.out.cell (i:=0) rfl
      have q1:=bf.out.cell (i:=1) rfl
      have q2:=bf.out.cell (i:=2) rfl
      have q3:=bf.out.cell (i:=3) rfl
      exact bodyPost_ret (v:=.tuple #[.agg #[.int .i64 0,.string ⟨#[]⟩,.slice none 0 0,.string ⟨#[]⟩],.int .i64 0]) (by simp [results,Tryz.results160,go_sem,q0,q1,q2,q3]) rfl (tokPost_nil (by omega) (four_below hbW1.out _ _ _ _ (Nat.le_refl _)))
    · have hT : Hid (M5.contC N s.data.toList = ⟨3,⟨#[]⟩,[],s.extract 0 N⟩):=by show _ = _; rw [M5.contC,if_neg hz,hx.out]
      rw [hT.out]
      go_enter Tryz.func160,Tryz.ntmps160
      go_wp2_with fail
      refine (hE.out _).mono ?_
      rintro e1 w1 ⟨rfl,hb1⟩
      rw [he,hEv]
      have bx1:=bx0.below hb1 bx0.lt
      have hbW1:=Lib.hid (bt hb0.out hb1)
      go_wp2_with fail
      refine (hC.out _).mono ?_
      rintro e1 w2 ⟨rfl,hb2⟩
      have bx2:=bx1.below hb2 bx1.lt
      have hbW2:=Lib.hid (bt hbW1.out hb2)
      have z0:=bx2.cell (i:=0) rfl
      have z1:=bx2.cell (i:=1) rfl
      have z2:=bx2.cell (i:=2) rfl
      have z3:=bx2.cell (i:=3) rfl
      have fz:=bx2.free
      have bf:=Lib.hid (bx2.four (.int .i64 3) (.string ⟨#[]⟩) (.slice none 0 0) (.string (s.extract 0 N)))
      clear hb1 hb2
      go_wp2_with fail
      have q0:=bf.out.cell (i:=0) rfl
      have q1:=bf.out.cell (i:=1) rfl
      have q2:=bf.out.cell (i:=2) rfl
      have q3:=bf.out.cell (i:=3) rfl
      exact bodyPost_ret (v:=.tuple #[.agg #[.int .i64 3,.string ⟨#[]⟩,.slice none 0 0,.string (s.extract 0 N)],.int .i64 (N : Int)]) (by simp [results,Tryz.results160,go_sem,q0,q1,q2,q3]) rfl (tokPost_nil (by omega) (four_below hbW2.out _ _ _ _ (Nat.le_refl _)))
end Go.Proofs.YteefodibpjgicaaGreat

namespace Go.Proofs.YteefodibpjgicaaGreat
open Go.RowKit
structure AddKept (g0 g1 : Nat) (v : Value) (w w' : World) : Prop where
  size : w.heap.size ≤ w'.heap.size
  block : ∀ k,k < w.heap.size → k ≠ g0 → k ≠ g1 → v.ownBlock ≠ some k → w'.heap[k]? = w.heap[k]?
  os : w'.os = w.os
  tape : w'.tape = w.tape
  output : w'.output = w.output
def AddPost (g0 g1 B : Nat) (v : Value) (s : ByteArray) (l : List Tok) (w : World) (e : Ending) (w' : World) : Prop :=
  e = .returned (.tuple #[]) ∧ ∃ v',Box w' g1 61 [v'] ∧ Box w' g0 9 [.string s] ∧ Toks w' B v' l ∧ AddKept g0 g1 v w w'
set_option maxHeartbeats 4000000 in
set_option maxRecDepth 100000 in
theorem tokAdd (t : Tok) (n : Nat) (s : ByteArray) (l : List Tok) (v va : Value) (g0 g1 B : Nat) (w : World) (b0 : Box w g0 9 [.string s]) (b1 : Box w g1 61 [v]) (hne : g0 ≠ g1) (h0 : g0 < B) (h1 : g1 < B) (hB : B ≤ w.heap.size)
    (hl : Toks w B v l) (hll : l.length ≤ 1073741824) (hn : n ≤ s.size) (hrow : Row (fun b => B ≤ b ∧ b < w.heap.size ∧ v.ownBlock ≠ some b) w 2 va t.attrs.length (cellsA t.attrs)) :
    Calls Tryz.prog 157 #[.agg #[.int .i64 t.kind,.string t.name,va,.string t.text],.int .i64 (n : Int),.pointer (some ⟨g1,0,none⟩),.pointer (some ⟨g0,0,none⟩)] w (AddPost g0 g1 B v (s.extract n s.size) (l ++ M5.keepT t) w):=by
  obtain ⟨wo,rfl⟩ : ∃ wo : World,wo = w:=⟨_,rfl⟩
  obtain ⟨av,cv,rfl⟩:=hrow.slice
  obtain ⟨a2,c2,rfl⟩:=hl.slice
  have hb0:=Lib.hid ((Below.refl wo.heap.size wo).alloc (Nat.le_refl _) (.cells #[.int .i64 t.kind,.string t.name,.slice av t.attrs.length cv,.string t.text] 87))
  have c0:=b0.alloc (.cells #[.int .i64 t.kind,.string t.name,.slice av t.attrs.length cv,.string t.text] 87)
  have c1:=b1.alloc (.cells #[.int .i64 t.kind,.string t.name,.slice av t.attrs.length cv,.string t.text] 87)
  have hl0:=hl.alloc (.cells #[.int .i64 t.kind,.string t.name,.slice av t.attrs.length cv,.string t.text] 87)
  have bt0:=Box.new wo 87 [.int .i64 t.kind,.string t.name,.slice av t.attrs.length cv,.string t.text]
  have hrow0 : Row (fun b => B ≤ b ∧ b < wo.heap.size ∧ (Value.slice a2 l.length c2).ownBlock ≠ some b) (wo.alloc (.cells #[.int .i64 t.kind,.string t.name,.slice av t.attrs.length cv,.string t.text] 87)) 2 (.slice av t.attrs.length cv) t.attrs.length (cellsA t.attrs):=hrow.keep (fun b hb => hb0.out.block b hb.2.1)
  have hz0 : (wo.alloc (.cells #[.int .i64 t.kind,.string t.name,.slice av t.attrs.length cv,.string t.text] 87)).heap.size = wo.heap.size + 1:=by simp
  have x0:=c0.cell (i:=0) rfl
  have x1:=c1.cell (i:=0) rfl
  have f0:=c0.free 0
  have f1:=c1.free 0
  have e1 : (n : Int) ≤ (s.size : Int):=by omega
  by_cases hk : t.kind = 0
  · have hk' : (t.kind != 0) = false:=by rw [hk]; rfl
    have hkeep : M5.keepT t = []:=by unfold M5.keepT; rw [if_neg (by simpa using hk)]
    rw [hkeep,List.append_nil]
    replace hk:=Lib.hid hk
    obtain ⟨xs,hown,hrep⟩:=hl0
    go_enter Tryz.func157,Tryz.ntmps157
    go_upto_region 1 with fail
    generalize wo.alloc (.cells #[.int .i64 t.kind,.string t.name,.slice av t.attrs.length cv,.string t.text] 87) = w0 at *
    have t0:=bt0.cell (i:=0) rfl
    have t1:=bt0.cell (i:=1) rfl
    have t2:=bt0.cell (i:=2) rfl
    have t3:=bt0.cell (i:=3) rfl
    go_wp2_with fail
    go_end0
    have hz : (w0.setCell ⟨g0,0,none⟩ (.string (s.extract n s.size))).heap.size = wo.heap.size + 1:=by simp [hz0]
    refine ⟨rfl,_,c1.far (p:=⟨g0,0,none⟩) (Ne.symm hne) _,c0.set 0 (.string (s.extract n s.size)),Toks.set (⟨xs,hown,hrep⟩ : Toks w0 B _ l) h0 _,⟨by omega,fun k hk0 h2 h3 h4 => ?_,hb0.out.os,hb0.out.tape,hb0.out.output⟩⟩
    rw [Below.heap_setCell w0 ⟨g0,0,none⟩ _ k h2,hb0.out.block k hk0]
  · have hk' : (t.kind != 0) = true:=bne_iff_ne.2 hk
    have hkeep : M5.keepT t = [t]:=by unfold M5.keepT; rw [if_pos hk]
    rw [hkeep]
    replace hk:=Lib.hid hk
    obtain ⟨xs,hown,hrep⟩:=hl0
    go_enter Tryz.func157,Tryz.ntmps157
    go_upto_region 1 with fail
    generalize wo.alloc (.cells #[.int .i64 t.kind,.string t.name,.slice av t.attrs.length cv,.string t.text] 87) = w0 at *
    have t0:=bt0.cell (i:=0) rfl
    have t1:=bt0.cell (i:=1) rfl
    have t2:=bt0.cell (i:=2) rfl
    have t3:=bt0.cell (i:=3) rfl
    obtain ⟨gne0,gne1⟩ : (Value.slice a2 l.length c2).ownBlock ≠ some g0 ∧ (Value.slice a2 l.length c2).ownBlock ≠ some g1:=⟨fun e => by have:=(hl.lt e).1; omega,fun e => by have:=(hl.lt e).1; omega⟩
    go_wp2_with (at_builtin; refine wpList_appOne w0 [.int .i64 t.kind,.string t.name,.slice av t.attrs.length cv,.string t.text] rfl _ _ 61 87 rfl B 4 Tryz.underlying61 infoT5 rfl (by omega) _ l.length xs rfl hown (wo.heap.size + 1) hz0 (by rfl) rfl (by simp [Value.oneCell']) (by omega) (by omega) (by omega) ?_; intro gg cap' w5 hown5 hgrow hat5; have d0:=c0.keep (hgrow.block _ c0.lt (Ne.symm gne0)); have d1:=c1.keep (hgrow.block _ c1.lt (Ne.symm gne1)); have y0:=d0.cell (i:=0) rfl; have y1:=d1.cell (i:=0) rfl; have q0:=d0.free 0; have q1:=d1.free 0; have z0:=(d0.far (p:=⟨g1,0,none⟩) hne (.slice (some ⟨gg,0,none⟩) (l.length + 1) cap')).cell (i:=0) rfl)
    go_end0
    have hlist : Toks w5 B (.slice (some ⟨gg,0,none⟩) (l.length + 1) cap') (l ++ [t]):=Toks.snoc (w:=w0) hrep (hrow0.mono (fun b hb => ⟨hb.1,by omega,hb.2.2⟩)) hgrow hat5 hown5
    have hz5:=hgrow.size
    refine ⟨rfl,_,(d1.set 0 (.slice (some ⟨gg,0,none⟩) (l.length + 1) cap')).far (p:=⟨g0,0,none⟩) (Ne.symm hne) (.string (s.extract n s.size)),(d0.far (p:=⟨g1,0,none⟩) hne (.slice (some ⟨gg,0,none⟩) (l.length + 1) cap')).set 0 (.string (s.extract n s.size)),(hlist.set h1 _).set h0 _,⟨by simp; omega,fun k hk0 h2 h3 h4 => ?_,hgrow.os.trans hb0.out.os,hgrow.tape.trans hb0.out.tape,hgrow.output.trans hb0.out.output⟩⟩
    rw [Below.heap_setCell _ ⟨g0,0,none⟩ _ k h2,Below.heap_setCell _ ⟨g1,0,none⟩ _ k h3,hgrow.block k (by omega) (Ne.symm h4),hb0.out.block k hk0]
end Go.Proofs.YteefodibpjgicaaGreat
