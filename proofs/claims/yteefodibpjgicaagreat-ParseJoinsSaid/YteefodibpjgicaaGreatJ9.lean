/- Texts joined: Tok8, Tok9, Tok10, Tok11, Tok12, Tok13, Tok14, Law05, Wr2, Wr3, Par1. -/
import Derived.Deep.RegionHeld3
import Derived.Test.YteefodibpjgicaaGreatRows
import Derived.StillTailTactics
import Derived.Shelf.Abstract
import Derived.Test.YteefodibpjgicaaGreatJ1
import Derived.Test.YteefodibpjgicaaGreatJ2
import Derived.Test.YteefodibpjgicaaGreatJ3
import Derived.Test.YteefodibpjgicaaGreatJ4
import Derived.Test.YteefodibpjgicaaGreatJ5
import Derived.Test.YteefodibpjgicaaGreatJ6
import Derived.Test.YteefodibpjgicaaGreatJ7
import Derived.Test.YteefodibpjgicaaGreatJ8
namespace Go.Proofs.YteefodibpjgicaaGreat
open Go.RowKit
theorem tag_code (c d : UInt8) (r : List UInt8) (h : M5.startsB (c :: d :: r) = true) (hd : M5.letterB d = false) : M5.tagR (c :: d :: r) =
    if d = 47 ∧ (r.head?.map M5.letterB) = some true then M5.endR r
    else if [60, 47, 62].isPrefixOf (c :: d :: r) then (M5.zero, (c :: d :: r).drop 3)
    else if [60, 33, 45, 45].isPrefixOf (c :: d :: r) then M5.remarkR [45, 45, 62] ((c :: d :: r).drop 4)
    else M5.remarkR [62] r := by
  rw [tag_else c d r h hd]
  by_cases hA : d = 47 ∧ (r.head?.map M5.letterB) = some true
  · have h1 : [60, 33, 45, 45].isPrefixOf (c :: d :: r) = false := by
      rw [hA.1]
      show (60 == c && (33 == (47 : UInt8) && _)) = false
      rw [show ((33 : UInt8) == 47) = false from by decide, Bool.false_and, Bool.and_false]
    have h2 : [60, 47, 62].isPrefixOf (c :: d :: r) = false := by
      cases r with
      | nil => simp at hA
      | cons e t =>
        have he : M5.letterB e = true := by simpa using hA.2
        have h62 : ((62 : UInt8) == e) = false := by
          rw [beq_eq_false_iff_ne]
          intro x
          subst x
          exact absurd he (by decide)
        show (60 == c && (47 == d && (62 == e && _))) = false
        rw [h62, Bool.false_and, Bool.and_false, Bool.and_false]
    rw [h1, h2, if_neg Bool.false_ne_true, if_neg Bool.false_ne_true, if_pos hA, if_pos hA]
    rfl
  · rw [if_neg hA, if_neg hA]
    by_cases h4 : [60, 33, 45, 45].isPrefixOf (c :: d :: r) = true
    · have h3 : [60, 47, 62].isPrefixOf (c :: d :: r) = false := by
        have : d = 33 := by
          have h4' : (60 == c && (33 == d && [45, 45].isPrefixOf r)) = true := h4
          simp only [Bool.and_eq_true, beq_iff_eq] at h4'
          exact h4'.2.1.symm
        subst this
        show (60 == c && (47 == (33 : UInt8) && _)) = false
        rw [show ((47 : UInt8) == 33) = false from by decide, Bool.false_and, Bool.and_false]
      rw [if_pos h4, h3, if_neg Bool.false_ne_true, if_pos h4]
      rfl
    · rw [if_neg h4, if_neg h4]
      rfl
theorem letter_ask (c : UInt8) : M5.letterB c = askR M5.letterB c.toNat := by
  by_cases hc : c.toNat < 128
  · rw [ask_low _ _ hc]
  · unfold askR
    rw [if_neg hc]
    unfold M5.letterB
    rw [Bool.eq_iff_iff]
    simp
    omega
theorem remark_at (s first last : ByteArray) (k : Nat) (hk : first.size = k) (hs : s.size ≤ 1073741824) (hf : k ≤ s.size) (hl : last.data.toList ≠ []) (P : Tok × List UInt8) (hP : P = M5.remarkR last.data.toList (s.data.toList.drop k)) :
    ∀ w, Glo w → Calls Tryz.prog 165 #[.string s, .string first, .string last] w (TokPost P.1 (s.size - P.2.length) w) := by
  subst hk hP
  exact fun w hg => tokRemark s first last w hg hs hf hl
set_option maxHeartbeats 8000000 in
set_option maxRecDepth 100000 in
theorem tokTag (s : ByteArray) (w : World) (hg : Glo w) (hs : s.size ≤ 1073741824) : Calls Tryz.prog 158 #[.string s] w (TokPost (M5.tagR s.data.toList).1 (s.size - (M5.tagR s.data.toList).2.length) w) := by
  have hst := Lib.hid (fun w => tokStarts s w hs)
  obtain ⟨wo, rfl⟩ : ∃ wo : World, wo = w := ⟨_, rfl⟩
  have bx0 := Box.new wo 87 [.int .i64 0, .string ⟨#[]⟩, .slice none 0 0, .string ⟨#[]⟩]
  have hb0 := (Below.refl _ wo).alloc (Nat.le_refl _) (.cells #[.int .i64 0, .string ⟨#[]⟩, .slice none 0 0, .string ⟨#[]⟩] 87)
  have hg0 := Lib.hid (hg.below hb0 (Nat.le_refl _))
  replace hb0 := Lib.hid hb0
  have fin : ∀ (t : Tok) (n : Nat) (w2 : World) (va : Value), Below (wo.alloc (.cells #[.int .i64 0, .string ⟨#[]⟩, .slice none 0 0, .string ⟨#[]⟩] 87)).heap.size (wo.alloc (.cells #[.int .i64 0, .string ⟨#[]⟩, .slice none 0 0, .string ⟨#[]⟩] 87)) w2 → w2.ownsRow (wo.alloc (.cells #[.int .i64 0, .string ⟨#[]⟩, .slice none 0 0, .string ⟨#[]⟩] 87)).heap.size 43 2 va t.attrs.length (cellsA t.attrs) →
      Box w2 wo.heap.size 87 [.int .i64 0, .string ⟨#[]⟩, .slice none 0 0, .string ⟨#[]⟩] ∧ (∃ a c, va = .slice a t.attrs.length c) ∧ Hid (Box ((((w2.setCell ⟨wo.heap.size, 0, none⟩ (.int .i64 t.kind)).setCell ⟨wo.heap.size, 1, none⟩ (.string t.name)).setCell ⟨wo.heap.size, 2, none⟩ va).setCell ⟨wo.heap.size, 3, none⟩ (.string t.text)) wo.heap.size 87 [.int .i64 t.kind, .string t.name, va, .string t.text]) ∧
        Hid (TokPost t n wo (.returned (.tuple #[.agg #[.int .i64 t.kind, .string t.name, va, .string t.text], .int .i64 (n : Int)])) ((((w2.setCell ⟨wo.heap.size, 0, none⟩ (.int .i64 t.kind)).setCell ⟨wo.heap.size, 1, none⟩ (.string t.name)).setCell ⟨wo.heap.size, 2, none⟩ va).setCell ⟨wo.heap.size, 3, none⟩ (.string t.text))) := by
    intro t n w2 va hb ho
    have bx2 := bx0.below hb bx0.lt
    refine ⟨bx2, own_slice5 ho, Lib.hid (bx2.four _ _ _ _), Lib.hid (tokPost_own rfl (own_four (g := wo.heap.size) ho (by simp) _ _ _ _) (by simp) (four_below (bt hb0.out hb) _ _ _ _ (Nat.le_refl _)))⟩
  replace fin := Lib.hid fin
  cases hsB : M5.startsB s.data.toList
  · have hP := Lib.hid (tag_no _ hsB)
    generalize M5.tagR s.data.toList = P at *
    have z0 := bx0.cell (i := 0) rfl
    have z1 := bx0.cell (i := 1) rfl
    have z2 := bx0.cell (i := 2) rfl
    have z3 := bx0.cell (i := 3) rfl
    have fz := bx0.free
    go_enter Tryz.func158, Tryz.ntmps158
    go_wp2_with (go_at_call 161; refine (hst.out _).mono ?_; rintro e1 w2 ⟨rfl, rfl⟩; rw [hsB])
    exact bodyPost_ret (v := .tuple #[.agg #[.int .i64 0, .string ⟨#[]⟩, .slice none 0 0, .string ⟨#[]⟩], .int .i64 0]) (by simp [results, Tryz.results158, go_sem, z0, z1, z2, z3]) rfl (by rw [hP.out]; exact tokPost_nil (by rw [List.drop_zero]; show _ = ((s.size - s.data.toList.length : Nat) : Int); rw [show s.data.toList.length = s.size from rfl]; omega) hb0.out)
  · obtain ⟨h2, hl⟩ := two_signs hsB
    have i0 : 0 < s.size := by omega
    have hle : Hid (∀ w, Calls Tryz.prog 162 #[.int .i32 (wrap32 (s[1].toNat : Int))] w (BoolPost (M5.letterB s[1]) w)) := Lib.hid (fun w => by rw [wrap32_byte, letter_ask]; exact tokLetter s[1].toNat w)
    cases hlt : M5.letterB s[1]
    · have hc := tag_code s[0] s[1] (s.data.toList.drop 2) (by rw [← hl]; exact hsB) hlt
      rw [← hl] at hc
      have e47 : ((s[1].toNat : Int) == 47) = (s[1] == 47) := (eqI _ 47).symm
      have h3 : 2 < s.size → (s.data.toList.drop 2).head? = s[2]? := fun h => by
        rw [drop_cons s 2 h]
        exact (getElem?_pos s 2 h).symm
      by_cases hA : s[1] = 47 ∧ ((s.data.toList.drop 2).head?.map M5.letterB) = some true
      · have h2s : 2 < s.size := by
          rcases Nat.lt_or_ge 2 s.size with h | h
          · exact h
          · have := hA.2
            rw [drop_end s 2 h] at this
            cases this
        have hl2 : M5.letterB s[2] = true := by
          have := hA.2
          rw [drop_cons s 2 h2s] at this
          exact Option.some.inj this
        have hle2 : Hid (∀ w, Calls Tryz.prog 162 #[.int .i32 (wrap32 (s[2].toNat : Int))] w (BoolPost true w)) := Lib.hid (fun w => by rw [wrap32_byte, ← hl2, letter_ask]; exact tokLetter s[2].toNat w)
        rw [if_pos hA] at hc
        have hE := Lib.hid (fun w => tokEnd s w hs (by omega))
        rw [← hc] at hE
        have hx47 : ((s[1].toNat : Int) == 47) = true := by rw [e47]; exact beq_iff_eq.2 hA.1
        generalize (M5.tagR s.data.toList).1 = t at *
        generalize s.size - (M5.tagR s.data.toList).2.length = n at *
        replace hl := Lib.hid hl
        replace hc := Lib.hid hc
        replace hA := Lib.hid hA
        clear e47 h3
        go_enter Tryz.func158, Tryz.ntmps158
        go_wp2_with fail
        refine (hst.out _).mono ?_
        rintro e1 w2 ⟨rfl, rfl⟩
        rw [hsB]
        go_wp2_with fail
        refine (hle.out _).mono ?_
        rintro e1 w2 ⟨rfl, rfl⟩
        rw [hlt]
        go_wp2_with fail
        refine (hle2.out _).mono ?_
        rintro e1 w2 ⟨rfl, rfl⟩
        go_wp2_with fail
        refine (hE.out _).mono ?_
        rintro e1 w2 ⟨va, rfl, hown, hb2⟩
        obtain ⟨bx2, ⟨a2, c2, rfl⟩, bf, hpost⟩ := fin.out t n w2 va hb2 hown
        have z0 := bx2.cell (i := 0) rfl
        have z1 := bx2.cell (i := 1) rfl
        have z2 := bx2.cell (i := 2) rfl
        have z3 := bx2.cell (i := 3) rfl
        have fz := bx2.free
        clear hown hb2
        go_wp2_with fail
        have q0 := bf.out.cell (i := 0) rfl
        have q1 := bf.out.cell (i := 1) rfl
        have q2 := bf.out.cell (i := 2) rfl
        have q3 := bf.out.cell (i := 3) rfl
        exact bodyPost_ret (v := .tuple #[.agg #[.int .i64 t.kind, .string t.name, .slice a2 t.attrs.length c2, .string t.text], .int .i64 (n : Int)]) (by simp [results, Tryz.results158, go_sem, q0, q1, q2, q3]) rfl hpost.out
      · rw [if_neg hA] at hc
        have hguard : ((s[1] == 47) = false) ∨ ((s[1] == 47) = true ∧ ¬ 2 < s.size) ∨ ((s[1] == 47) = true ∧ ∃ h : 2 < s.size, M5.letterB s[2] = false) := by
          by_cases h1 : s[1] = 47
          · by_cases h2s : 2 < s.size
            · refine .inr (.inr ⟨beq_iff_eq.2 h1, h2s, ?_⟩)
              rcases Bool.eq_false_or_eq_true (M5.letterB s[2]) with h | h
              · exact absurd ⟨h1, by rw [drop_cons s 2 h2s]; exact congrArg some h⟩ hA
              · exact h
            · exact .inr (.inl ⟨beq_iff_eq.2 h1, h2s⟩)
          · exact .inl (beq_eq_false_iff_ne.2 h1)
        rw [← e47] at hguard
        replace hA := Lib.hid hA
        clear h3 e47
        cases hp3 : Lib.hasPrefix s.data.toList [60, 47, 62]
        · rw [show [60, 47, 62].isPrefixOf s.data.toList = false from hp3, if_neg Bool.false_ne_true] at hc
          cases hp4 : Lib.hasPrefix s.data.toList [60, 33, 45, 45]
          · rw [show [60, 33, 45, 45].isPrefixOf s.data.toList = false from hp4, if_neg Bool.false_ne_true] at hc
            have hcall := Lib.hid (remark_at s (s.extract 0 2) ⟨#[62]⟩ 2 (by rw [ByteArray.size_extract]; omega) hs (by omega) (by simp) _ hc)
            generalize (M5.tagR s.data.toList).1 = t at *
            generalize s.size - (M5.tagR s.data.toList).2.length = n at *
            replace hl := Lib.hid hl
            replace hc := Lib.hid hc
            rcases hguard with h47 | ⟨h47, h2n⟩ | ⟨h47, h2s, hl2⟩
            · go_enter Tryz.func158, Tryz.ntmps158
              go_wp2_with fail
              refine (hst.out _).mono ?_
              rintro e1 w2 ⟨rfl, rfl⟩
              rw [hsB]
              go_wp2_with fail
              refine (hle.out _).mono ?_
              rintro e1 w2 ⟨rfl, rfl⟩
              rw [hlt]
              go_wp2_with fail
              refine (hasPrefix_any _ _ _).mono ?_
              rintro e1 w2 ⟨rfl, rfl⟩
              rw [hp3]
              go_wp2_with fail
              refine (hasPrefix_any _ _ _).mono ?_
              rintro e1 w2 ⟨rfl, rfl⟩
              rw [hp4]
              go_wp2_with fail
              refine (hcall.out _ hg0.out).mono ?_
              rintro e1 w2 ⟨va, rfl, hown, hb2⟩
              obtain ⟨bx2, ⟨a2, c2, rfl⟩, bf, hpost⟩ := fin.out t n w2 va hb2 hown
              have z0 := bx2.cell (i := 0) rfl
              have z1 := bx2.cell (i := 1) rfl
              have z2 := bx2.cell (i := 2) rfl
              have z3 := bx2.cell (i := 3) rfl
              have fz := bx2.free
              clear hown hb2
              go_wp2_with fail
              have q0 := bf.out.cell (i := 0) rfl
              have q1 := bf.out.cell (i := 1) rfl
              have q2 := bf.out.cell (i := 2) rfl
              have q3 := bf.out.cell (i := 3) rfl
              exact bodyPost_ret (v := .tuple #[.agg #[.int .i64 t.kind, .string t.name, .slice a2 t.attrs.length c2, .string t.text], .int .i64 (n : Int)]) (by simp [results, Tryz.results158, go_sem, q0, q1, q2, q3]) rfl hpost.out
            · go_enter Tryz.func158, Tryz.ntmps158
              go_wp2_with fail
              refine (hst.out _).mono ?_
              rintro e1 w2 ⟨rfl, rfl⟩
              rw [hsB]
              go_wp2_with fail
              refine (hle.out _).mono ?_
              rintro e1 w2 ⟨rfl, rfl⟩
              rw [hlt]
              go_wp2_with fail
              refine (hasPrefix_any _ _ _).mono ?_
              rintro e1 w2 ⟨rfl, rfl⟩
              rw [hp3]
              go_wp2_with fail
              refine (hasPrefix_any _ _ _).mono ?_
              rintro e1 w2 ⟨rfl, rfl⟩
              rw [hp4]
              go_wp2_with fail
              refine (hcall.out _ hg0.out).mono ?_
              rintro e1 w2 ⟨va, rfl, hown, hb2⟩
              obtain ⟨bx2, ⟨a2, c2, rfl⟩, bf, hpost⟩ := fin.out t n w2 va hb2 hown
              have z0 := bx2.cell (i := 0) rfl
              have z1 := bx2.cell (i := 1) rfl
              have z2 := bx2.cell (i := 2) rfl
              have z3 := bx2.cell (i := 3) rfl
              have fz := bx2.free
              clear hown hb2
              go_wp2_with fail
              have q0 := bf.out.cell (i := 0) rfl
              have q1 := bf.out.cell (i := 1) rfl
              have q2 := bf.out.cell (i := 2) rfl
              have q3 := bf.out.cell (i := 3) rfl
              exact bodyPost_ret (v := .tuple #[.agg #[.int .i64 t.kind, .string t.name, .slice a2 t.attrs.length c2, .string t.text], .int .i64 (n : Int)]) (by simp [results, Tryz.results158, go_sem, q0, q1, q2, q3]) rfl hpost.out
            · have hle2 : Hid (∀ w, Calls Tryz.prog 162 #[.int .i32 (wrap32 (s[2].toNat : Int))] w (BoolPost false w)) := Lib.hid (fun w => by rw [wrap32_byte, ← hl2, letter_ask]; exact tokLetter s[2].toNat w)
              go_enter Tryz.func158, Tryz.ntmps158
              go_wp2_with fail
              refine (hst.out _).mono ?_
              rintro e1 w2 ⟨rfl, rfl⟩
              rw [hsB]
              go_wp2_with fail
              refine (hle.out _).mono ?_
              rintro e1 w2 ⟨rfl, rfl⟩
              rw [hlt]
              go_wp2_with fail
              refine (hle2.out _).mono ?_
              rintro e1 w2 ⟨rfl, rfl⟩
              go_wp2_with fail
              refine (hasPrefix_any _ _ _).mono ?_
              rintro e1 w2 ⟨rfl, rfl⟩
              rw [hp3]
              go_wp2_with fail
              refine (hasPrefix_any _ _ _).mono ?_
              rintro e1 w2 ⟨rfl, rfl⟩
              rw [hp4]
              go_wp2_with fail
              refine (hcall.out _ hg0.out).mono ?_
              rintro e1 w2 ⟨va, rfl, hown, hb2⟩
              obtain ⟨bx2, ⟨a2, c2, rfl⟩, bf, hpost⟩ := fin.out t n w2 va hb2 hown
              have z0 := bx2.cell (i := 0) rfl
              have z1 := bx2.cell (i := 1) rfl
              have z2 := bx2.cell (i := 2) rfl
              have z3 := bx2.cell (i := 3) rfl
              have fz := bx2.free
              clear hown hb2
              go_wp2_with fail
              have q0 := bf.out.cell (i := 0) rfl
              have q1 := bf.out.cell (i := 1) rfl
              have q2 := bf.out.cell (i := 2) rfl
              have q3 := bf.out.cell (i := 3) rfl
              exact bodyPost_ret (v := .tuple #[.agg #[.int .i64 t.kind, .string t.name, .slice a2 t.attrs.length c2, .string t.text], .int .i64 (n : Int)]) (by simp [results, Tryz.results158, go_sem, q0, q1, q2, q3]) rfl hpost.out
          · rw [show [60, 33, 45, 45].isPrefixOf s.data.toList = true from hp4, if_pos rfl] at hc
            have h4s : 4 ≤ s.size := by
              have h' : [60, 33, 45, 45].isPrefixOf s.data.toList = true := hp4
              have := (List.isPrefixOf_iff_prefix.1 h').length_le
              exact this
            have hcall := Lib.hid (remark_at s ⟨#[60, 33, 45, 45]⟩ ⟨#[45, 45, 62]⟩ 4 rfl hs (by omega) (by simp) _ hc)
            generalize (M5.tagR s.data.toList).1 = t at *
            generalize s.size - (M5.tagR s.data.toList).2.length = n at *
            replace hl := Lib.hid hl
            replace hc := Lib.hid hc
            rcases hguard with h47 | ⟨h47, h2n⟩ | ⟨h47, h2s, hl2⟩
            · go_enter Tryz.func158, Tryz.ntmps158
              go_wp2_with fail
              refine (hst.out _).mono ?_
              rintro e1 w2 ⟨rfl, rfl⟩
              rw [hsB]
              go_wp2_with fail
              refine (hle.out _).mono ?_
              rintro e1 w2 ⟨rfl, rfl⟩
              rw [hlt]
              go_wp2_with fail
              refine (hasPrefix_any _ _ _).mono ?_
              rintro e1 w2 ⟨rfl, rfl⟩
              rw [hp3]
              go_wp2_with fail
              refine (hasPrefix_any _ _ _).mono ?_
              rintro e1 w2 ⟨rfl, rfl⟩
              rw [hp4]
              go_wp2_with fail
              refine (hcall.out _ hg0.out).mono ?_
              rintro e1 w2 ⟨va, rfl, hown, hb2⟩
              obtain ⟨bx2, ⟨a2, c2, rfl⟩, bf, hpost⟩ := fin.out t n w2 va hb2 hown
              have z0 := bx2.cell (i := 0) rfl
              have z1 := bx2.cell (i := 1) rfl
              have z2 := bx2.cell (i := 2) rfl
              have z3 := bx2.cell (i := 3) rfl
              have fz := bx2.free
              clear hown hb2
              go_wp2_with fail
              have q0 := bf.out.cell (i := 0) rfl
              have q1 := bf.out.cell (i := 1) rfl
              have q2 := bf.out.cell (i := 2) rfl
              have q3 := bf.out.cell (i := 3) rfl
              exact bodyPost_ret (v := .tuple #[.agg #[.int .i64 t.kind, .string t.name, .slice a2 t.attrs.length c2, .string t.text], .int .i64 (n : Int)]) (by simp [results, Tryz.results158, go_sem, q0, q1, q2, q3]) rfl hpost.out
            · exact absurd h2n (by omega)
            · have hle2 : Hid (∀ w, Calls Tryz.prog 162 #[.int .i32 (wrap32 (s[2].toNat : Int))] w (BoolPost false w)) := Lib.hid (fun w => by rw [wrap32_byte, ← hl2, letter_ask]; exact tokLetter s[2].toNat w)
              go_enter Tryz.func158, Tryz.ntmps158
              go_wp2_with fail
              refine (hst.out _).mono ?_
              rintro e1 w2 ⟨rfl, rfl⟩
              rw [hsB]
              go_wp2_with fail
              refine (hle.out _).mono ?_
              rintro e1 w2 ⟨rfl, rfl⟩
              rw [hlt]
              go_wp2_with fail
              refine (hle2.out _).mono ?_
              rintro e1 w2 ⟨rfl, rfl⟩
              go_wp2_with fail
              refine (hasPrefix_any _ _ _).mono ?_
              rintro e1 w2 ⟨rfl, rfl⟩
              rw [hp3]
              go_wp2_with fail
              refine (hasPrefix_any _ _ _).mono ?_
              rintro e1 w2 ⟨rfl, rfl⟩
              rw [hp4]
              go_wp2_with fail
              refine (hcall.out _ hg0.out).mono ?_
              rintro e1 w2 ⟨va, rfl, hown, hb2⟩
              obtain ⟨bx2, ⟨a2, c2, rfl⟩, bf, hpost⟩ := fin.out t n w2 va hb2 hown
              have z0 := bx2.cell (i := 0) rfl
              have z1 := bx2.cell (i := 1) rfl
              have z2 := bx2.cell (i := 2) rfl
              have z3 := bx2.cell (i := 3) rfl
              have fz := bx2.free
              clear hown hb2
              go_wp2_with fail
              have q0 := bf.out.cell (i := 0) rfl
              have q1 := bf.out.cell (i := 1) rfl
              have q2 := bf.out.cell (i := 2) rfl
              have q3 := bf.out.cell (i := 3) rfl
              exact bodyPost_ret (v := .tuple #[.agg #[.int .i64 t.kind, .string t.name, .slice a2 t.attrs.length c2, .string t.text], .int .i64 (n : Int)]) (by simp [results, Tryz.results158, go_sem, q0, q1, q2, q3]) rfl hpost.out
        · rw [show [60, 47, 62].isPrefixOf s.data.toList = true from hp3, if_pos rfl] at hc
          have h3s : 3 ≤ s.size := by
            have h' : [60, 47, 62].isPrefixOf s.data.toList = true := hp3
            have := (List.isPrefixOf_iff_prefix.1 h').length_le
            exact this
          have hz3 : Hid (TokPost (M5.tagR s.data.toList).1 (s.size - (M5.tagR s.data.toList).2.length) wo (.returned (.tuple #[.agg #[.int .i64 0, .string ⟨#[]⟩, .slice none 0 0, .string ⟨#[]⟩], .int .i64 3])) (wo.alloc (.cells #[.int .i64 0, .string ⟨#[]⟩, .slice none 0 0, .string ⟨#[]⟩] 87))) := by
            show TokPost _ _ _ _ _
            rw [hc]
            exact tokPost_nil (by show _ = ((s.size - (s.data.toList.drop 3).length : Nat) : Int); rw [List.length_drop, show s.data.toList.length = s.size from rfl]; omega) hb0.out
          have z0 := bx0.cell (i := 0) rfl
          have z1 := bx0.cell (i := 1) rfl
          have z2 := bx0.cell (i := 2) rfl
          have z3 := bx0.cell (i := 3) rfl
          have fz := bx0.free
          generalize (M5.tagR s.data.toList).1 = t at *
          generalize s.size - (M5.tagR s.data.toList).2.length = n at *
          replace hl := Lib.hid hl
          replace hc := Lib.hid hc
          rcases hguard with h47 | ⟨h47, h2n⟩ | ⟨h47, h2s, hl2⟩
          · go_enter Tryz.func158, Tryz.ntmps158
            go_wp2_with fail
            refine (hst.out _).mono ?_
            rintro e1 w2 ⟨rfl, rfl⟩
            rw [hsB]
            go_wp2_with fail
            refine (hle.out _).mono ?_
            rintro e1 w2 ⟨rfl, rfl⟩
            rw [hlt]
            go_wp2_with fail
            refine (hasPrefix_any _ _ _).mono ?_
            rintro e1 w2 ⟨rfl, rfl⟩
            rw [hp3]
            go_wp2_with fail
            exact bodyPost_ret (v := .tuple #[.agg #[.int .i64 0, .string ⟨#[]⟩, .slice none 0 0, .string ⟨#[]⟩], .int .i64 3]) (by simp [results, Tryz.results158, go_sem, z0, z1, z2, z3]) rfl hz3.out
          · exact absurd h2n (by omega)
          · have hle2 : Hid (∀ w, Calls Tryz.prog 162 #[.int .i32 (wrap32 (s[2].toNat : Int))] w (BoolPost false w)) := Lib.hid (fun w => by rw [wrap32_byte, ← hl2, letter_ask]; exact tokLetter s[2].toNat w)
            go_enter Tryz.func158, Tryz.ntmps158
            go_wp2_with fail
            refine (hst.out _).mono ?_
            rintro e1 w2 ⟨rfl, rfl⟩
            rw [hsB]
            go_wp2_with fail
            refine (hle.out _).mono ?_
            rintro e1 w2 ⟨rfl, rfl⟩
            rw [hlt]
            go_wp2_with fail
            refine (hle2.out _).mono ?_
            rintro e1 w2 ⟨rfl, rfl⟩
            go_wp2_with fail
            refine (hasPrefix_any _ _ _).mono ?_
            rintro e1 w2 ⟨rfl, rfl⟩
            rw [hp3]
            go_wp2_with fail
            exact bodyPost_ret (v := .tuple #[.agg #[.int .i64 0, .string ⟨#[]⟩, .slice none 0 0, .string ⟨#[]⟩], .int .i64 3]) (by simp [results, Tryz.results158, go_sem, z0, z1, z2, z3]) rfl hz3.out
    · have hP : Hid (M5.tagR s.data.toList = M5.beginR s.data.toList) := by
        show _ = _
        rw [hl] at hsB ⊢
        exact tag_begin _ _ _ hsB hlt
      have hbg := Lib.hid (fun w => tokBegin s w hs (by omega))
      rw [hP.out]
      clear hP
      generalize (M5.beginR s.data.toList).1 = t at *
      generalize s.size - (M5.beginR s.data.toList).2.length = n at *
      replace hl := Lib.hid hl
      go_enter Tryz.func158, Tryz.ntmps158
      go_wp2_with (first | (go_at_call 161; refine (hst.out _).mono ?_; rintro e1 w2 ⟨rfl, rfl⟩; rw [hsB]) | (go_at_call 162; refine (hle.out _).mono ?_; rintro e1 w2 ⟨rfl, rfl⟩; rw [hlt]))
      refine (hbg.out _).mono ?_
      rintro e1 w2 ⟨va, rfl, hown, hb2⟩
      obtain ⟨bx2, ⟨a2, c2, rfl⟩, bf, hpost⟩ := fin.out t n w2 va hb2 hown
      have z0 := bx2.cell (i := 0) rfl
      have z1 := bx2.cell (i := 1) rfl
      have z2 := bx2.cell (i := 2) rfl
      have z3 := bx2.cell (i := 3) rfl
      have fz := bx2.free
      clear hown hb2
      go_wp2_with fail
      have q0 := bf.out.cell (i := 0) rfl
      have q1 := bf.out.cell (i := 1) rfl
      have q2 := bf.out.cell (i := 2) rfl
      have q3 := bf.out.cell (i := 3) rfl
      exact bodyPost_ret (v := .tuple #[.agg #[.int .i64 t.kind, .string t.name, .slice a2 t.attrs.length c2, .string t.text], .int .i64 (n : Int)]) (by simp [results, Tryz.results158, go_sem, q0, q1, q2, q3]) rfl hpost.out
end Go.Proofs.YteefodibpjgicaaGreat

namespace Go.Proofs.YteefodibpjgicaaGreat
open Go.RowKit
theorem rune_plain (l : List UInt8) (hl : l ≠ []) :
    ((M1.dec l).1 ≠ 60 → M5.plainN l = (M1.dec l).2 + M5.plainN (l.drop (M1.dec l).2)) ∧ ((M1.dec l).1 = 60 → (M1.dec l).2 = 1) := by
  obtain ⟨c, r, rfl⟩ := List.exists_cons_of_ne_nil hl
  have hle := M1.dec_le (c :: r) hl
  by_cases h : c.toNat < 128
  · have e := dec_low _ c r rfl h
    rw [e]
    refine ⟨fun hc => ?_, fun _ => rfl⟩
    refine M5.plainN_skip 1 _ (by simp) (fun k hk => ?_)
    obtain rfl : k = 0 := by omega
    rw [List.drop_zero]
    cases hs : M5.startsB (c :: r)
    · rfl
    · obtain ⟨t, ht⟩ := M5.starts_head _ hs
      have : c = 60 := (List.cons.inj ht).1
      subst this
      exact absurd rfl hc
  · obtain ⟨h1, h2⟩ := dec_high (c :: r) c r rfl (by omega)
    refine ⟨fun _ => ?_, fun hc => by omega⟩
    refine M5.plainN_skip _ _ hle (fun k hk => ?_)
    cases hs : M5.startsB ((c :: r).drop k)
    · rfl
    · obtain ⟨t, ht⟩ := M5.starts_head _ hs
      have hk2 : k < (c :: r).length := by omega
      rw [List.drop_eq_getElem_cons hk2] at ht
      have h3 := h2 k hk hk2
      rw [(List.cons.inj ht).1] at h3
      exact absurd h3 (by decide)
set_option maxHeartbeats 2000000 in
set_option maxRecDepth 100000 in
theorem tokPlain (s : ByteArray) (w : World) (hs : s.size ≤ 1073741824) :
    Calls Tryz.prog 166 #[.string s] w fun e w' => e = .returned (.int .i64 (M5.plainN s.data.toList : Int)) ∧ Below w.heap.size w w' := by
  obtain ⟨N, hN⟩ : ∃ N, Hid (N = M5.plainN s.data.toList) := ⟨_, rfl⟩
  rw [← hN.out]
  obtain ⟨wo, rfl⟩ : ∃ wo : World, wo = w := ⟨_, rfl⟩
  go_enter Tryz.func166, Tryz.ntmps166
  go_wp2_with fail
  go_loopw [] (fun wr => ∃ pos : Nat, pos ≤ s.size ∧ wr.heap[wo.heap.size]? = some (.stringIter s pos) ∧ Below wo.heap.size wo wr ∧ Hid (N = pos + M5.plainN (s.data.toList.drop pos))) (fun wr => s.size - wr.iterPos wo.heap.size)
  case atStart => exact ⟨0, by omega, World.iter_heap wo s 0, (Below.refl _ wo).alloc (Nat.le_refl _) _, by show _ = _; rw [hN.out]; simp⟩
  case round =>
    obtain ⟨pos, hpl, hit, hbw, hv⟩ := hrel
    have hsz : wo.heap.size < wr.heap.size := (Array.getElem?_eq_some_iff.1 hit).1
    by_cases hp : pos < s.size
    · have hp' : pos < s.data.toList.length := hp
      have hne := drop_ne hp'
      have hnx := next_dec (P := Tryz.prog) wr wo.heap.size s pos hit hp
      have hst0 := rune_plain _ hne
      have hw1 := M1.dec_pos _ hne
      have hw2 := M1.dec_le _ hne
      have hlt := M1.dec_lt (s.data.toList.drop pos)
      rw [List.drop_drop] at hst0
      rw [List.length_drop, show s.data.toList.length = s.size from rfl] at hw2
      have hbw1 := Lib.below_iterAt hbw (Nat.le_refl _) s (pos + (M1.dec (s.data.toList.drop pos)).2)
      have hit1 := Lib.iterAt_heap wr wo.heap.size s pos (pos + (M1.dec (s.data.toList.drop pos)).2) hit
      have hS := fun w => tokStarts (s.extract pos s.size) w (by rw [ByteArray.size_extract]; omega)
      rw [dropk_bs, M5.bs_data] at hS
      have hx : Hid (s.extract pos s.size = M5.bs (s.data.toList.drop pos)) := Lib.hid (dropk_bs s pos)
      generalize (M1.dec (s.data.toList.drop pos)).1 = r at *
      generalize (M1.dec (s.data.toList.drop pos)).2 = wd at *
      generalize wr.iterAt wo.heap.size s (pos + wd) = w1 at *
      have hst := Lib.hid hst0
      clear hst0 hne hbw
      replace hS := Lib.hid hS
      by_cases h60 : r = 60
      · have e60 : ((r : Int) == 60) = true := by rw [h60]; rfl
        obtain rfl : wd = 1 := hst.out.2 h60
        cases hb : M5.startsB (s.data.toList.drop pos)
        · have hv2 : Hid (N = pos + 1 + M5.plainN (s.data.toList.drop (pos + 1))) := by
            show _ = _
            rw [hv.out]
            rw [drop_cons s pos hp] at hb ⊢
            rw [M5.plainN, hb, if_neg Bool.false_ne_true]
            omega
          go_wp2_with fail
          rw [hx.out]
          refine (hS.out _).mono ?_
          rintro e1 w2 ⟨rfl, rfl⟩
          rw [hb]
          go_wp2_with fail
          go_roundw
          case rel => exact ⟨pos + 1, by omega, hit1, hbw1, hv2⟩
          case measure => rw [iterPos_of hit1, iterPos_of hit]; omega
        · have hk : N = pos := by rw [hv.out, M5.plainN_yes _ hb]; rfl
          go_wp2_with fail
          rw [hx.out]
          refine (hS.out _).mono ?_
          rintro e1 w2 ⟨rfl, rfl⟩
          rw [hb]
          go_wp2_with fail
          go_ret
          exact ⟨by rw [hk]; rfl, hbw1⟩
      · have e60 : ((r : Int) == 60) = false := by rw [beq_eq_false_iff_ne]; omega
        have hv2 : Hid (N = pos + wd + M5.plainN (s.data.toList.drop (pos + wd))) := by show _ = _; rw [hv.out, hst.out.1 h60]; omega
        go_wp2_with fail
        go_roundw
        case rel => exact ⟨pos + wd, by omega, hit1, hbw1, hv2⟩
        case measure => rw [iterPos_of hit1, iterPos_of hit]; omega
    · have hnx := fun ty => Lib.run_next_end_at (P := Tryz.prog) wr wo.heap.size s pos ty hit hp
      have hk : N = s.size := by rw [hv.out, drop_end s pos (by omega)]; show pos + 0 = _; omega
      go_wp2_with fail
      go_ret
      exact ⟨by rw [hk]; rfl, hbw⟩
set_option maxHeartbeats 2000000 in
set_option maxRecDepth 100000 in
theorem tokChars (s : ByteArray) (w : World) (hs : s.size ≤ 1073741824) : Calls Tryz.prog 159 #[.string s] w (TokPost (M5.charsC s.data.toList) (M5.plainN s.data.toList) w) := by
  have hP := Lib.hid (fun w => tokPlain s w hs)
  have hle : M5.plainN s.data.toList ≤ s.size := M5.plainN_le _
  have hD := fun w => refsDecode (s.extract 0 (M5.plainN s.data.toList)) w (by rw [ByteArray.size_extract]; omega)
  unfold M5.charsC
  obtain ⟨dv, hdv⟩ : ∃ x, Hid (x = M5.bs (M2.decode (s.data.toList.take (M5.plainN s.data.toList)))) := ⟨_, rfl⟩
  have hD1 : Gives1 167 #[.string (s.extract 0 (M5.plainN s.data.toList))] dv := fun w => (hD w).mono (by
    rintro e w' ⟨rfl, hb⟩
    refine ⟨?_, hb⟩
    rw [hdv.out, Lib.extract_data, List.drop_zero, Nat.sub_zero]
    rfl)
  rw [← hdv.out]
  clear hD
  generalize M5.plainN s.data.toList = N at *
  replace hD1 := Lib.hid hD1
  obtain ⟨wo, rfl⟩ : ∃ wo : World, wo = w := ⟨_, rfl⟩
  have bx0 := Box.new wo 87 [.int .i64 0, .string ⟨#[]⟩, .slice none 0 0, .string ⟨#[]⟩]
  have hb0 := Lib.hid ((Below.refl _ wo).alloc (Nat.le_refl _) (.cells #[.int .i64 0, .string ⟨#[]⟩, .slice none 0 0, .string ⟨#[]⟩] 87))
  go_enter Tryz.func159, Tryz.ntmps159
  go_wp2_with fail
  refine (hP.out _).mono ?_
  rintro e1 w1 ⟨rfl, hb1⟩
  have bx1 := bx0.below hb1 bx0.lt
  have hbW1 := Lib.hid (bt hb0.out hb1)
  go_wp2_with fail
  refine (hD1.out _).mono ?_
  rintro e1 w2 ⟨rfl, hb2⟩
  have bx2 := bx1.below hb2 bx1.lt
  have hbW2 := Lib.hid (bt hbW1.out hb2)
  have z0 := bx2.cell (i := 0) rfl
  have z1 := bx2.cell (i := 1) rfl
  have z2 := bx2.cell (i := 2) rfl
  have z3 := bx2.cell (i := 3) rfl
  have fz := bx2.free
  have bf := Lib.hid (bx2.four (.int .i64 3) (.string ⟨#[]⟩) (.slice none 0 0) (.string dv))
  clear hb1 hb2
  go_wp2_with fail
  have q0 := bf.out.cell (i := 0) rfl
  have q1 := bf.out.cell (i := 1) rfl
  have q2 := bf.out.cell (i := 2) rfl
  have q3 := bf.out.cell (i := 3) rfl
  exact bodyPost_ret (v := .tuple #[.agg #[.int .i64 3, .string ⟨#[]⟩, .slice none 0 0, .string dv], .int .i64 (N : Int)]) (by simp [results, Tryz.results159, go_sem, q0, q1, q2, q3]) rfl (tokPost_nil rfl (four_below hbW2.out _ _ _ _ (Nat.le_refl _)))
end Go.Proofs.YteefodibpjgicaaGreat

namespace Go.Proofs.YteefodibpjgicaaGreat
open Go.RowKit Kmp
def rowI (wd : List UInt8) (bk : Nat → Nat) : List Value := (List.range (wd.length + 1)).map fun j => Value.int .i64 (bk j : Int)
theorem rowI_len (wd : List UInt8) (bk : Nat → Nat) : (rowI wd bk).length = wd.length + 1 := by simp [rowI]
theorem rowI_get (wd : List UInt8) (bk : Nat → Nat) (j : Nat) (h : j ≤ wd.length) : (rowI wd bk)[j]? = some (.int .i64 (bk j : Int)) := by
  unfold rowI
  rw [List.getElem?_map, List.getElem?_range (by omega)]
  rfl
structure FMem (wd : List UInt8) (bk : Nat → Nat) (g1 g2 ga : Nat) (w : World) : Prop where
  word : Box w g1 9 [.string (M5.bs wd)]
  slice : Box w g2 82 [.slice (some ⟨ga, 0, none⟩) (wd.length + 1) (wd.length + 1)]
  row : MutRow w ga (rowI wd bk)
theorem mutRow_lt {w : World} {g : Nat} {xs : List Value} (h : MutRow w g xs) (hx : 0 < xs.length) : g < w.heap.size := World.block_lt_of_cell? w ⟨g, 0, none⟩ (h 0 hx).1
theorem mutRow_below {w w' : World} {g B : Nat} {xs : List Value} (h : MutRow w g xs) (hb : Below B w w') (hg : g < B) : MutRow w' g xs := fun j hj => by
  obtain ⟨h1, h2⟩ := h j hj
  exact ⟨by rw [hb.cell (p := ⟨g, j, none⟩) hg]; exact h1, by rw [hb.frozen (p := ⟨g, j, none⟩) hg]; exact h2⟩
theorem FMem.below {wd : List UInt8} {bk : Nat → Nat} {g1 g2 ga : Nat} {w w' : World} (h : FMem wd bk g1 g2 ga w) (hb : Below w.heap.size w w') : FMem wd bk g1 g2 ga w' :=
  ⟨h.word.below hb h.word.lt, h.slice.below hb h.slice.lt, mutRow_below h.row hb (mutRow_lt h.row (by rw [rowI_len]; omega))⟩
theorem pre_one (s : ByteArray) (p : UInt8) (h : 0 < s.size) : M1.prefixB s.data.toList [p] = (M1.small s[0] == p) := by
  have := drop_cons s 0 h
  rw [List.drop_zero] at this
  rw [this]
  show (decide (1 ≤ (s[0] :: s.data.toList.drop 1).length) && ([M1.small s[0]] == [p])) = _
  rw [decide_eq_true (by simp), Bool.true_and]
  show (M1.small s[0] == p && ([] : List UInt8) == []) = _
  simp
theorem one_cut (wd : List UInt8) (h : Nat) (hh : h < wd.length) : ((M5.bs wd).extract h (h + 1)).data.toList = [wd[h]] := by
  rw [Lib.extract_data, M5.bs_data, List.drop_eq_getElem_cons hh, show h + 1 - h = 1 by omega]
  rfl
def StepPost (wd : List UInt8) (h : Nat) (c : UInt8) (w : World) (e : Ending) (w' : World) : Prop := ∃ r : Nat, Strides wd h c r ∧ e = .returned (.int .i64 (r : Int)) ∧ Below w.heap.size w w'
set_option maxHeartbeats 4000000 in
set_option maxRecDepth 100000 in
theorem tokStep (wd : List UInt8) (bk : Nat → Nat) (h M : Nat) (left : ByteArray) (w : World) (g1 g2 ga : Nat) (hm : FMem wd bk g1 g2 ga w) (hw1 : 0 < wd.length) (hw2 : wd.length ≤ 2147483648) (hh : h ≤ wd.length) (hM : h ≤ M) (ht : Tab wd bk M) (hl1 : 0 < left.size) (hl2 : left.size ≤ 1073741826) :
    Calls Tryz.prog 190 #[.int .i64 (h : Int), .string left, .pointer (some ⟨g1, 0, none⟩), .pointer (some ⟨g2, 0, none⟩)] w (StepPost wd h left[0] w) := by
  obtain ⟨wo, rfl⟩ : ∃ wo : World, wo = w := ⟨_, rfl⟩
  have hP := Lib.hid (fun (k : Nat) (hk : k < wd.length) w => utfPrefix left ((M5.bs wd).extract k (k + 1)) w (by omega) (by rw [ByteArray.size_extract]; omega))
  obtain ⟨c, hc⟩ : ∃ c, Hid (c = M1.small left[0]) := ⟨M1.small left[0], Lib.hid rfl⟩
  have hQ : Hid (∀ (k : Nat) (hk : k < wd.length) w, Calls Tryz.prog 191 #[.string left, .string ((M5.bs wd).extract k (k + 1))] w (fun e w' => e = .returned (.bool (c == wd[k])) ∧ Below w.heap.size w w')) := Lib.hid (fun k hk w => (hP.out k hk w).mono (by
    rintro e w' ⟨rfl, hb⟩
    rw [one_cut wd k hk, pre_one left wd[k] hl1, ← hc.out]
    exact ⟨rfl, hb⟩))
  have hbz : (M5.bs wd).size = wd.length := bs_size wd
  have hgoal : ∀ (r : Nat) (w' : World), r ≤ h + 1 → r ≤ wd.length → (∀ u, Low u → IsL wd u h → IsL wd (u ++ [c]) r) → Below wo.heap.size wo w' → StepPost wd h left[0] wo (.returned (.int .i64 (r : Int))) w' := fun r w' h1 h2 h3 hb => ⟨r, ⟨h1, h2, by rw [← hc.out]; exact h3⟩, rfl, hb⟩
  replace hgoal := Lib.hid hgoal
  generalize StepPost wd h left[0] wo = Post at *
  clear hP
  go_enter Tryz.func190, Tryz.ntmps190
  go_wp2_with fail
  go_loopw [0] (fun u0 wr => ∃ k : Nat, u0 = .int .i64 (k : Int) ∧ k ≤ h ∧ Below wo.heap.size wo wr ∧ Hid (∀ u, Low u → IsL wd u h → Cand wd u c k)) (fun u0 _ => (intOf u0).toNat)
  case atStart => exact ⟨h, rfl, Nat.le_refl _, Below.refl _ _, Lib.hid (fun u _ hl => cand_of hl)⟩
  case round =>
    obtain ⟨k, rfl, hk, hbw, hcand⟩ := hrel
    have hm1 := hm.below hbw
    have x0 := hm1.word.cell (i := 0) rfl
    have y0 := hm1.slice.cell (i := 0) rfl
    have hrow := rowI_get wd bk k (by omega)
    obtain ⟨r0, rf0⟩ := hm1.row.at hrow
    have hback : (∀ hh : k < wd.length, wd[k] ≠ c) → 1 ≤ k → bk k < k ∧ Hid (∀ u, Low u → IsL wd u h → Cand wd u c (bk k)) := fun he h1 =>
      ⟨(ht k h1 (by omega)).1, Lib.hid (fun u hu hl => cand_miss hu ht h1 (by omega) (by omega) (hcand.out u hu hl) he)⟩
    by_cases hkn : k = wd.length
    · obtain ⟨hb1, hb2⟩ := hback (fun hh => by omega) (by omega)
      have ekn : ((k : Int) == (wd.length : Int)) = true := by rw [beq_iff_eq]; omega
      generalize bk k = b at *
      replace hkn := Lib.hid hkn
      clear hback hcand
      go_wp2_with fail
      go_roundw
      case rel => exact ⟨b, rfl, by omega, hbw, hb2⟩
      case measure => simp [intOf]; omega
    · have ekn : ((k : Int) == (wd.length : Int)) = false := by rw [beq_eq_false_iff_ne]; omega
      have hlt : k < wd.length := by omega
      have hC := Lib.hid (fun w => hQ.out k hlt w)
      have hhit : (c == wd[k]) = true → Hid (∀ u, Low u → IsL wd u h → IsL wd (u ++ [c]) (k + 1)) := fun he => Lib.hid (fun u hu hl => cand_hit (hcand.out u hu hl) hlt (beq_iff_eq.1 he).symm)
      have hzero : (c == wd[k]) = false → k = 0 → Hid (∀ u, Low u → IsL wd u h → IsL wd (u ++ [c]) 0) := fun he h0 => by
        subst h0
        exact Lib.hid (fun u hu hl => cand_zero (hcand.out u hu hl) hlt (fun e => by rw [e, beq_self_eq_true] at he; cases he))
      have hmiss : (c == wd[k]) = false → 1 ≤ k → bk k < k ∧ Hid (∀ u, Low u → IsL wd u h → Cand wd u c (bk k)) := fun he h1 => hback (fun _ e => by rw [← e, beq_self_eq_true] at he; cases he) h1
      generalize (c == wd[k]) = hit at *
      clear hback hcand
      replace hkn := Lib.hid hkn
      cases hit
      · by_cases hk0 : k = 0
        · have hz := hzero rfl hk0
          subst hk0
          clear hzero hhit hmiss
          go_wp2_with fail
          refine (hC.out _).mono ?_
          rintro e1 w2 ⟨rfl, hb2⟩
          go_wp2_with fail
          exact hgoal.out 0 _ (by omega) (by omega) hz.out (bt hbw hb2)
        · obtain ⟨hb1, hb2⟩ := hmiss rfl (by omega)
          generalize bk k = b at *
          clear hzero hhit hmiss
          replace hb2 := Lib.hid hb2
          have hgt : decide ((0 : Int) < (k : Int)) = true := decide_eq_true (by omega)
          go_wp2_with fail
          refine (hC.out _).mono ?_
          rintro e1 w2 ⟨rfl, hbq⟩
          have hm2 := hm1.below hbq
          have x0 := hm2.word.cell (i := 0) rfl
          have y0 := hm2.slice.cell (i := 0) rfl
          obtain ⟨r0, rf0⟩ := hm2.row.at hrow
          go_wp2_with fail
          go_roundw
          case rel => exact ⟨b, rfl, by omega, bt hbw hbq, hb2.out⟩
          case measure => simp [intOf]; omega
      · have hz := hhit rfl
        clear hzero hhit hmiss
        by_cases hk0 : k = 0
        · subst hk0
          go_wp2_with fail
          refine (hC.out _).mono ?_
          rintro e1 w2 ⟨rfl, hb2⟩
          go_wp2_with fail
          exact hgoal.out 1 _ (by omega) (by omega) hz.out (bt hbw hb2)
        · have hgt : decide ((0 : Int) < (k : Int)) = true := decide_eq_true (by omega)
          go_wp2_with fail
          refine (hC.out _).mono ?_
          rintro e1 w2 ⟨rfl, hbq⟩
          have hm2 := hm1.below hbq
          have x0 := hm2.word.cell (i := 0) rfl
          go_wp2_with fail
          refine (hC.out _).mono ?_
          rintro e1 w3 ⟨rfl, hbq3⟩
          go_wp2_with fail
          exact hgoal.out (k + 1) _ (by omega) (by omega) hz.out (bt (bt hbw hbq) hbq3)
end Go.Proofs.YteefodibpjgicaaGreat

namespace Go.Proofs.YteefodibpjgicaaGreat
open Go.RowKit Kmp
def FollowPost (wd : List UInt8) (w : World) (e : Ending) (w' : World) : Prop := ∃ (bk : Nat → Nat) (g1 g2 ga : Nat), e = .returned (.func (.func 190) #[] #[.pointer (some ⟨g1, 0, none⟩), .pointer (some ⟨g2, 0, none⟩)]) ∧ FMem wd bk g1 g2 ga w' ∧ Tab wd bk wd.length ∧ Below w.heap.size w w'
theorem cellB {B : Nat} {w w' : World} (hb : Below B w w') {b o : Nat} {v : Value} (h : w.cell? ⟨b, o, none⟩ = some v) (hlt : b < B) : w'.cell? ⟨b, o, none⟩ = some v := (hb.cell (p := ⟨b, o, none⟩) hlt).trans h
def KmpI (wd : List UInt8) (ga i b : Nat) (c : UInt8) (wr : World) (f : Nat → Bool) (t : Nat → Value) (W : World) : Prop :=
  (f 13 = false → Below wr.heap.size wr W) ∧ (f 11 = true → ∃ r : Nat, t 11 = .int .i64 (r : Int) ∧ Strides wd b c r) ∧
  (f 13 = true → (∀ j, j < 13 → f j = true) ∧ ∃ (r : Nat) (W0 : World), Strides wd b c r ∧ Below wr.heap.size wr W0 ∧ W = W0.setCell ⟨ga, i + 1, none⟩ (.int .i64 (r : Int)))
section
variable {wd : List UInt8} {ga i b : Nat} {c : UInt8} {wr W : World} {f : Nat → Bool} {t : Nat → Value}
theorem KmpI.start (wd : List UInt8) (ga i b : Nat) (c : UInt8) (wr : World) (t : Nat → Value) : KmpI wd ga i b c wr (fun j => decide (14 ≤ j)) t wr.drew :=
  ⟨fun _ => (Below.refl _ wr).drew, fun h => by simp at h, fun h => by simp at h⟩
theorem KmpI.notlast (h : KmpI wd ga i b c wr f t W) {j : Nat} (hj : j < 14) (hf : f j = false) : f 13 = false := by
  cases h13 : f 13
  · rfl
  · rcases Nat.lt_or_ge j 13 with hl | hl
    · have := (h.2.2 h13).1 j hl
      rw [hf] at this
      cases this
    · obtain rfl : j = 13 := by omega
      rw [h13] at hf
      cases hf
theorem KmpI.same (h : KmpI wd ga i b c wr f t W) (j : Nat) (v : Value) (h1 : j ≠ 11) (h2 : j ≠ 13) : KmpI wd ga i b c wr (updF f j) (updT t j v) W := by
  refine ⟨fun e => h.1 (by rwa [updF_ne f (Ne.symm h2)] at e), fun e => ?_, fun e => ?_⟩
  · rw [updF_ne f (Ne.symm h1)] at e
    obtain ⟨r, e1, e2⟩ := h.2.1 e
    exact ⟨r, by simpa [updT, Ne.symm h1] using e1, e2⟩
  · rw [updF_ne f (Ne.symm h2)] at e
    obtain ⟨e1, e2⟩ := h.2.2 e
    exact ⟨fun k hk => by unfold updF; split; rfl; exact e1 k hk, e2⟩
theorem KmpI.call (h : KmpI wd ga i b c wr f t W) (h13 : f 13 = false) {r : Nat} {W' : World} (hr : Strides wd b c r) (hb : Below W.heap.size W W') : KmpI wd ga i b c wr (updF f 11) (updT t 11 (.int .i64 (r : Int))) W' := by
  refine ⟨fun _ => bt (h.1 h13) hb, fun _ => ⟨r, by simp [updT], hr⟩, fun e => ?_⟩
  rw [updF_ne f (by omega), h13] at e
  cases e
theorem KmpI.put (h : KmpI wd ga i b c wr f t W) (h13 : f 13 = false) {r : Nat} (hr : Strides wd b c r) (hall : ∀ j, j < 13 → f j = true) (v : Value) : KmpI wd ga i b c wr (updF f 13) (updT t 13 v) (W.setCell ⟨ga, i + 1, none⟩ (.int .i64 (r : Int))) := by
  refine ⟨fun e => by simp at e, fun e => ?_, fun _ => ⟨fun k hk => by unfold updF; split; rfl; exact hall k hk, r, W, hr, h.1 h13, rfl⟩⟩
  rw [updF_ne f (by omega)] at e
  obtain ⟨r', e1, e2⟩ := h.2.1 e
  exact ⟨r', by simpa [updT] using e1, e2⟩
end
theorem infoInt : (Tryz.prog.info? 3).map (fun i => (i.zero, i.size, i.bytes)) = some (some (.int .i64 0), 1, 8) := by kernel_rfl
theorem made_row (wd : List UInt8) (bk : Nat → Nat) (h : ∀ j, bk j = 0) : (madeCells (Value.int .i64 0).cells ((wd.length + 1) * 1)).toList = rowI wd bk := by
  unfold madeCells rowI
  rw [Array.toList_map, Array.toList_range, Nat.mul_one]
  refine List.map_congr_left (fun j _ => ?_)
  rw [h j]
  show #[Value.int .i64 0][j % 1]! = _
  rw [Nat.mod_one]
  rfl
theorem mutRow_own {w : World} {base g n cap : Nat} {e : TypeId} {xs : List Value} (h : w.ownsRow base e 1 (.slice (some ⟨g, 0, none⟩) n cap) n xs) (hx : xs.length = n) : MutRow w g xs := fun j hj => by
  refine ⟨?_, h.frozenAt j⟩
  rw [h.cellAt j (by omega)]
  exact List.getElem?_eq_getElem hj
theorem rowI_set (wd : List UInt8) (bk : Nat → Nat) (i r : Nat) : (rowI wd bk).set i (.int .i64 (r : Int)) = rowI wd (fun j => if j = i then r else bk j) := by
  apply List.ext_getElem?
  intro j
  unfold rowI
  rw [List.getElem?_set, List.getElem?_map, List.getElem?_map, List.length_map, List.length_range]
  by_cases hj : j < wd.length + 1
  · rw [List.getElem?_range hj]
    by_cases e : i = j
    · subst e
      simp [hj]
    · simp [e, Ne.symm e]
  · rw [List.getElem?_eq_none (by simp; omega)]
    simp
    omega
set_option maxHeartbeats 4000000 in
set_option maxRecDepth 100000 in
theorem tokFollow (wd : List UInt8) (w : World) (hw1 : 0 < wd.length) (hw2 : wd.length ≤ 1073741826) : Calls Tryz.prog 179 #[.string (M5.bs wd)] w (FollowPost wd w) := by
  obtain ⟨wo, rfl⟩ : ∃ wo : World, wo = w := ⟨_, rfl⟩
  have hbz : (M5.bs wd).size = wd.length := bs_size wd
  have hE : ∀ (args : Array Value) (w : World), (callFunc 190 args).run Tryz.prog w = .ok (.enter 190 args) w := enters_of Tryz.func190 (by kernel_rfl) rfl
  go_enter Tryz.func179, Tryz.ntmps179
  obtain ⟨i0, hi, hz0, hz1, hz2⟩ := info_parts infoInt
  have bw0 := Box.new wo 9 [.string (M5.bs wd)]
  have hb0 := Lib.hid ((Below.refl _ wo).alloc (Nat.le_refl _) (.cells #[.string (M5.bs wd)] 9))
  go_wp2_with (at_make; refine wpList_make_full _ rfl _ _ 82 rfl (wo.heap.size + 1) 3 i0 (.int .i64 0) 1 Tryz.underlying82 hi hz0 hz1 .i64 .i64 _ _ (wd.length + 1) rfl rfl (by omega) (by omega) (by rw [hz2]; omega) (by unfold maxLen; omega) (by simp) ?_; intro w1 hown1 hgrow1)
  have hz : (wo.alloc (.cells #[.string (M5.bs wd)] 9)).heap.size = wo.heap.size + 1 := by simp
  rw [hz] at hown1
  have hr1 := mutRow_own hown1 (by rw [made_row wd (fun _ => 0) (fun _ => rfl), rowI_len])
  rw [made_row wd (fun _ => 0) (fun _ => rfl)] at hr1
  have bw1 := bw0.keep (hgrow1.block _ bw0.lt (by simp))
  have hb1 := hb0.out.grown hgrow1 hb0.out.size (fun k hk => by cases hk)
  have hgs : wo.heap.size + 1 < w1.heap.size := mutRow_lt hr1 (by rw [rowI_len]; omega)
  obtain ⟨g1, hg1⟩ : ∃ g, g = wo.heap.size := ⟨_, rfl⟩
  obtain ⟨ga, hga⟩ : ∃ g, g = wo.heap.size + 1 := ⟨_, rfl⟩
  obtain ⟨g2, hg2⟩ : ∃ g, g = w1.heap.size := ⟨_, rfl⟩
  have hm0 : FMem wd (fun _ => 0) g1 g2 ga (w1.alloc (.cells #[.slice (some ⟨ga, 0, none⟩) (wd.length + 1) (wd.length + 1)] 82)) := by
    rw [hg1, hg2, hga]
    exact ⟨bw1.alloc _, Box.new w1 82 [.slice (some ⟨wo.heap.size + 1, 0, none⟩) (wd.length + 1) (wd.length + 1)], fun j hj => by
      obtain ⟨h1, h2⟩ := hr1 j hj
      have hb := (Below.refl w1.heap.size w1).alloc (Nat.le_refl _) (.cells #[.slice (some ⟨wo.heap.size + 1, 0, none⟩) (wd.length + 1) (wd.length + 1)] 82)
      exact ⟨by rw [hb.cell (p := ⟨wo.heap.size + 1, j, none⟩) hgs]; exact h1, by rw [hb.frozen (p := ⟨wo.heap.size + 1, j, none⟩) hgs]; exact h2⟩⟩
  have hb2 := hb1.alloc hb1.size (.cells #[.slice (some ⟨ga, 0, none⟩) (wd.length + 1) (wd.length + 1)] 82)
  have hne1 : g1 ≠ ga := by omega
  have hne2 : g2 ≠ ga := by omega
  have hga2 : wo.heap.size ≤ ga := by omega
  rw [← hga, ← hg1, ← hg2]
  clear hg1 hga hg2 hgs hr1 bw1 bw0 hb0 hb1 hown1 hgrow1 hz hi hz0 hz1 hz2
  go_loopw [5] (fun u5 wr => ∃ (i : Nat) (bk : Nat → Nat), u5 = .int .i64 (i : Int) ∧ 1 ≤ i ∧ i ≤ wd.length ∧ FMem wd bk g1 g2 ga wr ∧ Hid (Tab wd bk i) ∧ Below wo.heap.size wo wr) (fun u5 _ => wd.length - (intOf u5).toNat)
  case atStart => exact ⟨1, fun _ => 0, rfl, Nat.le_refl _, hw1, hm0, Lib.hid (tab_one wd _ rfl), hb2⟩
  case round =>
    obtain ⟨i, bk, rfl, hi1, hin, hm, ht, hbw⟩ := hrel
    have x0 := hm.word.cell (i := 0) rfl
    have y0 := hm.slice.cell (i := 0) rfl
    by_cases hlt : i < wd.length
    · have hlti : decide ((i : Int) < (wd.length : Int)) = true := decide_eq_true (by omega)
      have hrow := rowI_get wd bk i (by omega)
      obtain ⟨r0, rf0⟩ := hm.row.at hrow
      have hx : ((M5.bs wd).extract i wd.length).size = wd.length - i := by rw [ByteArray.size_extract, hbz]; omega
      have hc0 : ∀ h : 0 < ((M5.bs wd).extract i wd.length).size, ((M5.bs wd).extract i wd.length)[0] = wd[i] := fun h => by
        have h1 := drop_cons ((M5.bs wd).extract i wd.length) 0 h
        rw [List.drop_zero, Lib.extract_data, M5.bs_data, List.take_of_length_le (by rw [List.length_drop]; exact Nat.le_refl _), List.drop_eq_getElem_cons hlt] at h1
        exact (List.cons.inj h1).1.symm
      have hbki : bk i < i := (ht.out i hi1 (Nat.le_refl _)).1
      have hS : Hid (∀ w', FMem wd bk g1 g2 ga w' → Calls Tryz.prog 190 #[.int .i64 (bk i : Int), .string ((M5.bs wd).extract i wd.length), .pointer (some ⟨g1, 0, none⟩), .pointer (some ⟨g2, 0, none⟩)] w' (StepPost wd (bk i) wd[i] w')) := Lib.hid (fun w' h => by
        have h0 : 0 < ((M5.bs wd).extract i wd.length).size := by omega
        have := tokStep wd bk (bk i) i ((M5.bs wd).extract i wd.length) w' g1 g2 ga h hw1 (by omega) (by omega) (by omega) ht.out h0 (by omega)
        rw [hc0 h0] at this
        exact this)
      generalize hbk : bk i = b at *
      replace hbk := Lib.hid hbk
      clear hc0
      have hwrap : IntKind.i64.wrap ((i : Int) + 1) = (i : Int) + 1 := IntWalk.i64_in _ ⟨by omega, by omega⟩
      have hgl : ga < wr.heap.size := mutRow_lt hm.row (by rw [rowI_len]; omega)
      have c1 : (0 : Int) ≤ (i : Int) := by omega
      have c2 : (i : Int) ≤ (wd.length : Int) := by omega
      have c3 : (i : Int) < (wd.length : Int) + 1 := by omega
      have c4 : (0 : Int) ≤ (i : Int) + 1 := by omega
      have c5 : (i : Int) + 1 < (wd.length : Int) + 1 := by omega
      go_wp2_with fail
      refine wp_region_known (n := 14) ([some (.slice (some ⟨ga, 0, none⟩) (wd.length + 1) (wd.length + 1)), some (Value.int IntKind.i64 (i : Int)), some (.int .i64 ((i : Int) + 1)), some (Value.func (Fn.func 190) #[] #[Value.pointer (some ⟨g1, 0, none⟩), Value.pointer (some ⟨g2, 0, none⟩)]), some (.slice (some ⟨ga, 0, none⟩) (wd.length + 1) (wd.length + 1)), some (Value.int IntKind.i64 (i : Int)), some (.pointer (some ⟨ga, i, none⟩)), some (.int .i64 (b : Int)), some (.string (M5.bs wd)), some (Value.int IntKind.i64 (i : Int)), some (.string ((M5.bs wd).extract i wd.length)), none, some (.pointer (some ⟨ga, i + 1, none⟩)), none] : List (Option Value)) (fun t => ⟨#[Value.string (M5.bs wd), Value.pointer (some ⟨g1, 0, none⟩), Value.nilFunc, Value.pointer (some ⟨g2, 0, none⟩), Value.func (Fn.func 190) #[] #[Value.pointer (some ⟨g1, 0, none⟩), Value.pointer (some ⟨g2, 0, none⟩)], Value.int IntKind.i64 (i : Int), Value.string (M5.bs wd), Value.int IntKind.i64 (wd.length : Int), Value.int IntKind.i64 ((wd.length : Int) + 1), Value.slice (some ⟨ga, 0, none⟩) (wd.length + 1) (wd.length + 1), Value.func (Fn.func 190) #[] #[Value.pointer (some ⟨g1, 0, none⟩), Value.pointer (some ⟨g2, 0, none⟩)], Value.int IntKind.i64 (i : Int), Value.string (M5.bs wd), Value.int IntKind.i64 (wd.length : Int), Value.bool true, u15, u16, t 0, t 1, t 2, t 3, t 4, t 5, t 6, t 7, t 8, t 9, t 10, t 11, t 12, undef], []⟩) (fun f t W => KmpI wd ga i b wd[i] wr f t W) (fun j => match j with | 0 => u17 | 1 => u18 | 2 => u19 | 3 => u20 | 4 => u21 | 5 => u22 | 6 => u23 | 7 => u24 | 8 => u25 | 9 => u26 | 10 => u27 | 11 => u28 | 12 => u29 | _ => undef) (by kernel_rfl) (by rfl) (by rfl) (by kernel_rfl) rfl ?i0 ?step ?fin
      case i0 =>
        exact KmpI.start _ _ _ _ _ _ _
      case step =>
        intro j0 hj0 f t W hfi hwt hk2 hI
        have h13 := hI.notlast hj0 hfi
        have hlow := hI.1 h13
        have s0 := cellB hlow x0 hm.word.lt
        have s1 := cellB hlow y0 hm.slice.lt
        have s2 := cellB hlow r0 hgl
        have s3 := Lib.hid (hm.below hlow)
        clear hlow h13
        obtain rfl | rfl | rfl | rfl | rfl | rfl | rfl | rfl | rfl | rfl | rfl | rfl | rfl | rfl : j0 = 0 ∨ j0 = 1 ∨ j0 = 2 ∨ j0 = 3 ∨ j0 = 4 ∨ j0 = 5 ∨ j0 = 6 ∨ j0 = 7 ∨ j0 = 8 ∨ j0 = 9 ∨ j0 = 10 ∨ j0 = 11 ∨ j0 = 12 ∨ j0 = 13 := by omega
        · -- operation 0
          replace hI := Lib.hid hI
          replace hI := Lib.hid hI
          replace hk2 := Lib.hid hk2
          clear hwt
          refine wpOp_step rfl (fun K hK => ?_)
          go_simp
          exact hK _ _ ⟨_, by simp [updT], hk2.out.at_ rfl, hI.out.same _ _ (by decide) (by decide)⟩
        · -- operation 1
          replace hI := Lib.hid hI
          replace hI := Lib.hid hI
          replace hk2 := Lib.hid hk2
          clear hwt
          refine wpOp_step rfl (fun K hK => ?_)
          go_simp
          exact hK _ _ ⟨_, by simp [updT], hk2.out.at_ rfl, hI.out.same _ _ (by decide) (by decide)⟩
        · -- operation 2
          have e1 : t 1 = Value.int IntKind.i64 (i : Int) := hk2 1 _ (hwt 1 (by kernel_rfl)) rfl
          replace hI := Lib.hid hI
          replace hI := Lib.hid hI
          replace hk2 := Lib.hid hk2
          clear hwt
          refine wpOp_step rfl (fun K hK => ?_)
          go_simp
          exact hK _ _ ⟨_, by simp [updT, e1], hk2.out.at_ rfl, hI.out.same _ _ (by decide) (by decide)⟩
        · -- operation 3
          replace hI := Lib.hid hI
          replace hI := Lib.hid hI
          replace hk2 := Lib.hid hk2
          clear hwt
          refine wpOp_step rfl (fun K hK => ?_)
          go_simp
          exact hK _ _ ⟨_, by simp [updT], hk2.out.at_ rfl, hI.out.same _ _ (by decide) (by decide)⟩
        · -- operation 4
          replace hI := Lib.hid hI
          replace hI := Lib.hid hI
          replace hk2 := Lib.hid hk2
          clear hwt
          refine wpOp_step rfl (fun K hK => ?_)
          go_simp
          exact hK _ _ ⟨_, by simp [updT], hk2.out.at_ rfl, hI.out.same _ _ (by decide) (by decide)⟩
        · -- operation 5
          replace hI := Lib.hid hI
          replace hI := Lib.hid hI
          replace hk2 := Lib.hid hk2
          clear hwt
          refine wpOp_step rfl (fun K hK => ?_)
          go_simp
          exact hK _ _ ⟨_, by simp [updT], hk2.out.at_ rfl, hI.out.same _ _ (by decide) (by decide)⟩
        · -- operation 6
          have e4 : t 4 = .slice (some ⟨ga, 0, none⟩) (wd.length + 1) (wd.length + 1) := hk2 4 _ (hwt 4 (by kernel_rfl)) rfl
          have e5 : t 5 = Value.int IntKind.i64 (i : Int) := hk2 5 _ (hwt 5 (by kernel_rfl)) rfl
          replace hI := Lib.hid hI
          replace hI := Lib.hid hI
          replace hk2 := Lib.hid hk2
          clear hwt
          refine wpOp_step rfl (fun K hK => ?_)
          go_simp
          exact hK _ _ ⟨_, by simp [updT, e4, e5], hk2.out.at_ rfl, hI.out.same _ _ (by decide) (by decide)⟩
        · -- operation 7
          have e6 : t 6 = .pointer (some ⟨ga, i, none⟩) := hk2 6 _ (hwt 6 (by kernel_rfl)) rfl
          replace hI := Lib.hid hI
          replace hI := Lib.hid hI
          replace hk2 := Lib.hid hk2
          clear hwt
          refine wpOp_step rfl (fun K hK => ?_)
          go_simp
          exact hK _ _ ⟨_, by simp [updT, e6], hk2.out.at_ rfl, hI.out.same _ _ (by decide) (by decide)⟩
        · -- operation 8
          replace hI := Lib.hid hI
          replace hI := Lib.hid hI
          replace hk2 := Lib.hid hk2
          clear hwt
          refine wpOp_step rfl (fun K hK => ?_)
          go_simp
          exact hK _ _ ⟨_, by simp [updT], hk2.out.at_ rfl, hI.out.same _ _ (by decide) (by decide)⟩
        · -- operation 9
          replace hI := Lib.hid hI
          replace hI := Lib.hid hI
          replace hk2 := Lib.hid hk2
          clear hwt
          refine wpOp_step rfl (fun K hK => ?_)
          go_simp
          exact hK _ _ ⟨_, by simp [updT], hk2.out.at_ rfl, hI.out.same _ _ (by decide) (by decide)⟩
        · -- operation 10
          have e8 : t 8 = .string (M5.bs wd) := hk2 8 _ (hwt 8 (by kernel_rfl)) rfl
          have e9 : t 9 = Value.int IntKind.i64 (i : Int) := hk2 9 _ (hwt 9 (by kernel_rfl)) rfl
          replace hI := Lib.hid hI
          replace hI := Lib.hid hI
          replace hk2 := Lib.hid hk2
          clear hwt
          refine wpOp_step rfl (fun K hK => ?_)
          go_simp
          exact hK _ _ ⟨_, by simp [updT, e8, e9], hk2.out.at_ rfl, hI.out.same _ _ (by decide) (by decide)⟩
        · -- operation 11
          have e3 : t 3 = Value.func (Fn.func 190) #[] #[Value.pointer (some ⟨g1, 0, none⟩), Value.pointer (some ⟨g2, 0, none⟩)] := hk2 3 _ (hwt 3 (by kernel_rfl)) rfl
          have e7 : t 7 = .int .i64 (b : Int) := hk2 7 _ (hwt 7 (by kernel_rfl)) rfl
          have e10 : t 10 = .string ((M5.bs wd).extract i wd.length) := hk2 10 _ (hwt 10 (by kernel_rfl)) rfl
          have hC := Lib.hid (hS.out W s3.out)
          have h13 := hI.notlast hj0 hfi
          replace hk2 := Lib.hid hk2
          replace hI := Lib.hid hI
          clear hwt
          refine wpOp_step rfl (fun K hK => ?_)
          go_simp
          refine hC.out.mono ?_
          rintro e w5 ⟨r, hr, rfl, hb5⟩
          exact hK _ _ ⟨_, by simp [updT, e3, e7, e10], hk2.out.free rfl, hI.out.call h13 hr hb5⟩
        · -- operation 12
          have e0 : t 0 = .slice (some ⟨ga, 0, none⟩) (wd.length + 1) (wd.length + 1) := hk2 0 _ (hwt 0 (by kernel_rfl)) rfl
          have e2 : t 2 = .int .i64 ((i : Int) + 1) := hk2 2 _ (hwt 2 (by kernel_rfl)) rfl
          replace hI := Lib.hid hI
          replace hI := Lib.hid hI
          replace hk2 := Lib.hid hk2
          clear hwt
          refine wpOp_step rfl (fun K hK => ?_)
          go_simp
          exact hK _ _ ⟨_, by simp [updT, e0, e2], hk2.out.at_ rfl, hI.out.same _ _ (by decide) (by decide)⟩
        · -- operation 13
          have e12 : t 12 = .pointer (some ⟨ga, i + 1, none⟩) := hk2 12 _ (hwt 12 (by kernel_rfl)) rfl
          obtain ⟨r, e11, hr⟩ := hI.2.1 (hwt 11 (by kernel_rfl))
          obtain ⟨q0, qf0⟩ := s3.out.row.at (rowI_get wd bk (i + 1) (by omega))
          have hput := hI.put hfi hr (fun j hj => by
            rcases (by omega : j = 0 ∨ j = 1 ∨ j = 2 ∨ j = 3 ∨ j = 4 ∨ j = 5 ∨ j = 6 ∨ j = 7 ∨ j = 8 ∨ j = 9 ∨ j = 10 ∨ j = 11 ∨ j = 12) with rfl | rfl | rfl | rfl | rfl | rfl | rfl | rfl | rfl | rfl | rfl | rfl | rfl <;> exact hwt _ (by kernel_rfl)) undef
          replace hput := Lib.hid hput
          replace hk2 := Lib.hid hk2
          replace hI := Lib.hid hI
          clear hwt
          refine wpOp_step rfl (fun K hK => ?_)
          go_simp
          exact hK _ _ ⟨undef, by simp [updT, e11, e12], hk2.out.free rfl, hput.out⟩
      case fin =>
        intro f t W hall hk2 hI
        obtain ⟨_, r, W0, hr, hb0, rfl⟩ := hI.2.2 (hall 13 (by omega))
        clear hk2 hall hI
        have hm2 := hm.below hb0
        have hrow2 := hm2.row.set (k := i + 1) (by rw [rowI_len]; omega) (.int .i64 (r : Int))
        rw [rowI_set] at hrow2
        have hbF : Below wo.heap.size wo (W0.setCell ⟨ga, i + 1, none⟩ (.int .i64 (r : Int))) := (bt hbw hb0).setCell (p := ⟨ga, i + 1, none⟩) hga2 _
        have hmF : FMem wd (fun j => if j = i + 1 then r else bk j) g1 g2 ga (W0.setCell ⟨ga, i + 1, none⟩ (.int .i64 (r : Int))) := ⟨hm2.word.far hne1 _, hm2.slice.far hne2 _, hrow2⟩
        have htF := Lib.hid (tab_next hi1 hlt ht.out r (by rw [hbk.out]; exact hr))
        replace hmF := Lib.hid hmF
        go_wp2_with fail
        refine ⟨⟨_, _, _, _, _, _, _, _, _, _, _, _, _, _, _, _, _, _, _, _, ?rel, rfl⟩, ?measure⟩
        case rel => exact ⟨i + 1, fun j => if j = i + 1 then r else bk j, by go_num, by omega, by omega, hmF.out, htF, hbF⟩
        case measure => exact rf_meas hlt
    · obtain rfl : i = wd.length := by omega
      go_wp2_with fail
      go_ret
      exact ⟨bk, g1, g2, ga, rfl, hm, ht.out, hbw⟩
end Go.Proofs.YteefodibpjgicaaGreat

namespace Go.Proofs.YteefodibpjgicaaGreat
open Go.RowKit Kmp
theorem flat_edge : Flat edgeB := flat_of (by decide +kernel)
theorem flat_ask (q : UInt8 → Bool) (hq : Flat q) (c : UInt8) : q c = askR q c.toNat := by
  by_cases h : c.toNat < 128
  · rw [ask_low q c h]
  · unfold askR
    rw [if_neg h, hq c (by omega)]
set_option maxHeartbeats 4000000 in
set_option maxRecDepth 100000 in
theorem tokEnds (s nm : ByteArray) (w : World) (hs : s.size ≤ 1073741824) (hn : nm.size ≤ 1073741824) :
    Calls Tryz.prog 168 #[.string s, .string nm] w (EndsPost (M5.endsL ([60, 47] ++ nm.data.toList) s.data.toList) w) := by
  obtain ⟨wd, hwd⟩ : ∃ wd : List UInt8, wd = [60, 47] ++ nm.data.toList := ⟨_, rfl⟩
  have hwl : wd.length = 2 + nm.size := by rw [hwd, List.length_append]; show 2 + nm.size = _; rfl
  have hW : (⟨#[60, 47]⟩ : ByteArray) ++ nm = M5.bs wd := by
    apply ByteArray.ext
    apply Array.ext'
    rw [M5.bs_data, hwd, ByteArray.data_append, Array.toList_append]
  rw [← hwd]
  have hsl : s.data.toList.length = s.size := rfl
  obtain ⟨R, hR⟩ : ∃ R, Hid (R = M5.endsL wd s.data.toList) := ⟨_, rfl⟩
  rw [← hR.out]
  have hF := Lib.hid (fun w => tokFollow wd w (by omega) (by omega))
  have hadd : ¬ 9223372036854775807 < 2 + nm.size := by omega
  have hE : ∀ (args : Array Value) (w : World), (callFunc 190 args).run Tryz.prog w = .ok (.enter 190 args) w := enters_of Tryz.func190 (by kernel_rfl) rfl
  have hbz : (M5.bs wd).size = wd.length := bs_size wd
  have hwb1 : 0 < wd.length := by omega
  have hwb2 : wd.length ≤ 1073741826 := by omega
  replace hwd := Lib.hid hwd
  obtain ⟨wo, rfl⟩ : ∃ wo : World, wo = w := ⟨_, rfl⟩
  go_enter Tryz.func168, Tryz.ntmps168
  go_wp2_with fail
  replace hwl := Lib.hid hwl
  refine (hF.out _).mono ?_
  rintro e1 w1 ⟨bk, g1, g2, ga, rfl, hm, ht, hb1⟩
  replace ht := Lib.hid ht
  go_wp2_with fail
  go_loopw [7, 15] (fun u7 u15 wr => ∃ (i h : Nat), u7 = .int .i64 (h : Int) ∧ u15 = .int .i64 (i : Int) ∧ i ≤ s.size ∧ FMem wd bk g1 g2 ga wr ∧ Hid (IsL wd (M1.fold (s.data.toList.take i)) h) ∧ Hid (∀ k, k + wd.length < i → ¬ Hit wd s.data.toList k) ∧ Below wo.heap.size wo wr) (fun _ u15 _ => s.size - (intOf u15).toNat)
  case atStart => exact ⟨0, 0, rfl, rfl, Nat.zero_le _, hm, Lib.hid (isL_nil wd), Lib.hid (fun k hk => by omega), hb1⟩
  case round =>
    obtain ⟨i, h, rfl, rfl, hi, hm, hL, hno, hbw⟩ := hrel
    by_cases hlt : i < s.size
    · have hh : h ≤ wd.length := hL.out.1
      have hx : (s.extract i s.size).size = s.size - i := by rw [ByteArray.size_extract]; omega
      have hc0 : ∀ h : 0 < (s.extract i s.size).size, (s.extract i s.size)[0] = s[i] := fun h => by
        have h1 := drop_cons (s.extract i s.size) 0 h
        rw [List.drop_zero, Lib.extract_data, List.take_of_length_le (by rw [List.length_drop]; exact Nat.le_refl _), drop_cons s i hlt] at h1
        exact (List.cons.inj h1).1.symm
      have hS : Hid (∀ w', FMem wd bk g1 g2 ga w' → Calls Tryz.prog 190 #[.int .i64 (h : Int), .string (s.extract i s.size), .pointer (some ⟨g1, 0, none⟩), .pointer (some ⟨g2, 0, none⟩)] w' (StepPost wd h s[i] w')) := Lib.hid (fun w' hm' => by
        have h0 : 0 < (s.extract i s.size).size := by omega
        have := tokStep wd bk h wd.length (s.extract i s.size) w' g1 g2 ga hm' (by omega) (by omega) hh hh ht.out h0 (by omega)
        rw [hc0 h0] at this
        exact this)
      have hLe : Hid (∀ w, Calls Tryz.prog 180 #[.int .i32 (wrap32 (s[i].toNat : Int))] w (BoolPost (edgeB s[i]) w)) := Lib.hid (fun w => by
        rw [wrap32_byte]
        have := tokLeaves s[i].toNat w
        rwa [← flat_ask edgeB flat_edge] at this)
      have hgo : (h = wd.length ∧ edgeB s[i] = true → False) → ∀ r, Strides wd h s[i] r → Hid (IsL wd (M1.fold (s.data.toList.take (i + 1))) r) ∧ Hid (∀ k, k + wd.length < i + 1 → ¬ Hit wd s.data.toList k) := fun hne r hr => by
        refine ⟨Lib.hid ?_, Lib.hid (fun k hk hh' => ?_)⟩
        · have e := fold_snoc s.data.toList i hlt
          have := hr.2.2 _ (low_fold _) hL.out
          rw [e]
          exact this
        · rcases Nat.lt_or_ge (k + wd.length) i with hk2 | hk2
          · exact hno.out k hk2 hh'
          · have hki : k = i - wd.length := by omega
            rw [hki] at hh'
            exact hne ((hit_iff hlt hL.out (by omega)).1 hh')
      by_cases hhn : h = wd.length
      · have ekn : ((h : Int) == (wd.length : Int)) = true := by rw [beq_iff_eq]; omega
        cases hed : edgeB s[i]
        · rw [hed] at hLe hgo
          have hgo2 := Lib.hid (hgo (fun e => by cases e.2))
          replace hhn := Lib.hid hhn
          clear hgo hc0
          go_wp2_with fail
          refine (hLe.out _).mono ?_
          rintro e1 w2 ⟨rfl, rfl⟩
          go_wp2_with fail
          refine (hS.out _ hm).mono ?_
          rintro e1 w2 ⟨r, hr, rfl, hb2⟩
          obtain ⟨hL2, hno2⟩ := hgo2.out r hr
          have hm2 := Lib.hid (hm.below hb2)
          have hbw2 := Lib.hid (bt hbw hb2)
          clear hm hbw hb2
          go_wp2_with fail
          go_roundw
          case rel => exact ⟨i + 1, r, rfl, by go_num, by omega, hm2.out, hL2, hno2, hbw2.out⟩
          case measure => exact rf_meas hlt
        · have hni : wd.length ≤ i := by
            have := hL.out.2.1.length_le
            rw [hhn, List.take_length] at this
            unfold M1.fold at this
            rw [List.length_map, List.length_take] at this
            omega
          have hres : R = some (i - wd.length) := by
            rw [hR.out]
            exact ends_some wd _ _ ((hit_iff hlt hL.out hni).2 ⟨hhn, hed⟩) (fun k hk => hno.out k (by omega))
          rw [hed] at hLe
          replace hres := Lib.hid hres
          clear hgo hc0
          go_wp2_with fail
          refine (hLe.out _).mono ?_
          rintro e1 w2 ⟨rfl, rfl⟩
          go_wp2_with fail
          go_ret
          exact ⟨by rw [hres.out]; show _ = Ending.returned (.int .i64 ((i - wd.length : Nat) : Int)); rw [Int.ofNat_sub hni]; rfl, hbw⟩
      · have ekn : ((h : Int) == (wd.length : Int)) = false := by rw [beq_eq_false_iff_ne]; omega
        have hgo2 := Lib.hid (hgo (fun e => hhn e.1))
        replace hhn := Lib.hid hhn
        clear hgo hc0
        go_wp2_with fail
        refine (hS.out _ hm).mono ?_
        rintro e1 w2 ⟨r, hr, rfl, hb2⟩
        obtain ⟨hL2, hno2⟩ := hgo2.out r hr
        have hm2 := Lib.hid (hm.below hb2)
        have hbw2 := Lib.hid (bt hbw hb2)
        clear hm hbw hb2
        go_wp2_with fail
        go_roundw
        case rel => exact ⟨i + 1, r, rfl, by go_num, by omega, hm2.out, hL2, hno2, hbw2.out⟩
        case measure => exact rf_meas hlt
    · have hres : R = none := by
        rw [hR.out]
        exact ends_none wd _ (fun k hk => hno.out k (by obtain ⟨_, h2, _⟩ := hk; omega) hk)
      replace hres := Lib.hid hres
      go_wp2_with fail
      go_ret
      exact ⟨by rw [hres.out]; rfl, hbw⟩
theorem ends_le (wd : List UInt8) : ∀ (l : List UInt8) (k : Nat), M5.endsL wd l = some k → k ≤ l.length := by
  intro l
  induction l with
  | nil => intro k h; cases h
  | cons c r ih =>
    intro k h
    by_cases h0 : Hit wd (c :: r) 0
    · rw [(ends_cons wd c r).1 h0] at h
      cases h
      exact Nat.zero_le _
    · rw [(ends_cons wd c r).2 h0] at h
      cases hr : M5.endsL wd r with
      | none => rw [hr] at h; cases h
      | some j =>
        rw [hr] at h
        have := ih j hr
        have h' : j + 1 = k := by simpa using h
        simp only [List.length_cons]
        omega
set_option maxHeartbeats 4000000 in
set_option maxRecDepth 100000 in
theorem tokContent (s nm : ByteArray) (w : World) (hs : s.size ≤ 1073741824) (hn : nm.size ≤ 1073741824) :
    Calls Tryz.prog 160 #[.string s, .string nm] w (TokPost (M5.contC (M5.endN nm.data.toList s.data.toList) s.data.toList) (M5.endN nm.data.toList s.data.toList) w) := by
  have hE := Lib.hid (fun w => tokEnds s nm w hs hn)
  obtain ⟨N, hN⟩ : ∃ N, Hid (N = M5.endN nm.data.toList s.data.toList) := ⟨_, rfl⟩
  rw [← hN.out]
  have hNv : Hid (N = match M5.endsL ([60, 47] ++ nm.data.toList) s.data.toList with | some k => k | none => s.size) := by
    show _ = _
    rw [hN.out]
    unfold M5.endN
    try (cases M5.endsL ([60, 47] ++ nm.data.toList) s.data.toList <;> rfl)
  have hNs : N ≤ s.size := by
    rw [hNv.out]
    cases he : M5.endsL ([60, 47] ++ nm.data.toList) s.data.toList with
    | none => exact Nat.le_refl _
    | some k => exact ends_le _ _ k he
  have hx : Hid (M5.bs (s.data.toList.take N) = s.extract 0 N) := by show _ = _; rw [bs_cut, List.drop_zero, Nat.sub_zero]
  have hC := Lib.hid (fun w => sClone (s.extract 0 N) w (by rw [ByteArray.size_extract]; omega))
  obtain ⟨wo, rfl⟩ : ∃ wo : World, wo = w := ⟨_, rfl⟩
  have bx0 := Box.new wo 87 [.int .i64 0, .string ⟨#[]⟩, .slice none 0 0, .string ⟨#[]⟩]
  have hb0 := Lib.hid ((Below.refl _ wo).alloc (Nat.le_refl _) (.cells #[.int .i64 0, .string ⟨#[]⟩, .slice none 0 0, .string ⟨#[]⟩] 87))
  cases he : M5.endsL ([60, 47] ++ nm.data.toList) s.data.toList with
  | none =>
    rw [he] at hNv
    have hNe : N = s.size := hNv.out
    have hEv : endV none = -1 := rfl
    by_cases hz : N = 0
    · have hT : Hid (M5.contC N s.data.toList = M5.zero) := by show _ = _; rw [M5.contC, if_pos hz]
      rw [hT.out]
      go_enter Tryz.func160, Tryz.ntmps160
      go_wp2_with fail
      refine (hE.out _).mono ?_
      rintro e1 w1 ⟨rfl, hb1⟩
      rw [he, hEv]
      have bx1 := bx0.below hb1 bx0.lt
      have hbW1 := Lib.hid (bt hb0.out hb1)
      have z0 := bx1.cell (i := 0) rfl
      have z1 := bx1.cell (i := 1) rfl
      have z2 := bx1.cell (i := 2) rfl
      have z3 := bx1.cell (i := 3) rfl
      have fz := bx1.free
      have bf := Lib.hid (bx1.four (.int .i64 0) (.string ⟨#[]⟩) (.slice none 0 0) (.string ⟨#[]⟩))
      clear hb1
      go_wp2_with fail
      have q0 := bf.out.cell (i := 0) rfl
      have q1 := bf.out.cell (i := 1) rfl
      have q2 := bf.out.cell (i := 2) rfl
      have q3 := bf.out.cell (i := 3) rfl
      exact bodyPost_ret (v := .tuple #[.agg #[.int .i64 0, .string ⟨#[]⟩, .slice none 0 0, .string ⟨#[]⟩], .int .i64 0]) (by simp [results, Tryz.results160, go_sem, q0, q1, q2, q3]) rfl (tokPost_nil (by omega) (four_below hbW1.out _ _ _ _ (Nat.le_refl _)))
    · have hxs : s.extract 0 N = s := by rw [hNe, ByteArray.extract_zero_size]
      rw [hxs] at hC
      have hT : Hid (M5.contC N s.data.toList = ⟨3, ⟨#[]⟩, [], s⟩) := by show _ = _; rw [M5.contC, if_neg hz, hx.out, hxs]
      rw [hT.out]
      go_enter Tryz.func160, Tryz.ntmps160
      go_wp2_with fail
      refine (hE.out _).mono ?_
      rintro e1 w1 ⟨rfl, hb1⟩
      rw [he, hEv]
      have bx1 := bx0.below hb1 bx0.lt
      have hbW1 := Lib.hid (bt hb0.out hb1)
      go_wp2_with fail
      refine (hC.out _).mono ?_
      rintro e1 w2 ⟨rfl, hb2⟩
      have bx2 := bx1.below hb2 bx1.lt
      have hbW2 := Lib.hid (bt hbW1.out hb2)
      have z0 := bx2.cell (i := 0) rfl
      have z1 := bx2.cell (i := 1) rfl
      have z2 := bx2.cell (i := 2) rfl
      have z3 := bx2.cell (i := 3) rfl
      have fz := bx2.free
      have bf := Lib.hid (bx2.four (.int .i64 3) (.string ⟨#[]⟩) (.slice none 0 0) (.string (s)))
      clear hb1 hb2
      go_wp2_with fail
      have q0 := bf.out.cell (i := 0) rfl
      have q1 := bf.out.cell (i := 1) rfl
      have q2 := bf.out.cell (i := 2) rfl
      have q3 := bf.out.cell (i := 3) rfl
      exact bodyPost_ret (v := .tuple #[.agg #[.int .i64 3, .string ⟨#[]⟩, .slice none 0 0, .string (s)], .int .i64 (s.size : Int)]) (by simp [results, Tryz.results160, go_sem, q0, q1, q2, q3]) rfl (tokPost_nil (by omega) (four_below hbW2.out _ _ _ _ (Nat.le_refl _)))
  | some k =>
    rw [he] at hNv
    obtain rfl : N = k := hNv.out
    have hEv : endV (some N) = (N : Int) := rfl
    by_cases hz : N = 0
    · have hT : Hid (M5.contC N s.data.toList = M5.zero) := by show _ = _; rw [M5.contC, if_pos hz]
      rw [hT.out]
      go_enter Tryz.func160, Tryz.ntmps160
      go_wp2_with fail
      refine (hE.out _).mono ?_
      rintro e1 w1 ⟨rfl, hb1⟩
      rw [he, hEv]
      have bx1 := bx0.below hb1 bx0.lt
      have hbW1 := Lib.hid (bt hb0.out hb1)
      have z0 := bx1.cell (i := 0) rfl
      have z1 := bx1.cell (i := 1) rfl
      have z2 := bx1.cell (i := 2) rfl
      have z3 := bx1.cell (i := 3) rfl
      have fz := bx1.free
      have bf := Lib.hid (bx1.four (.int .i64 0) (.string ⟨#[]⟩) (.slice none 0 0) (.string ⟨#[]⟩))
      clear hb1
      go_wp2_with fail
      have q0 := bf.out.cell (i := 0) rfl
      have q1 := bf.out.cell (i := 1) rfl
      have q2 := bf.out.cell (i := 2) rfl
      have q3 := bf.out.cell (i := 3) rfl
      exact bodyPost_ret (v := .tuple #[.agg #[.int .i64 0, .string ⟨#[]⟩, .slice none 0 0, .string ⟨#[]⟩], .int .i64 0]) (by simp [results, Tryz.results160, go_sem, q0, q1, q2, q3]) rfl (tokPost_nil (by omega) (four_below hbW1.out _ _ _ _ (Nat.le_refl _)))
    · have hT : Hid (M5.contC N s.data.toList = ⟨3, ⟨#[]⟩, [], s.extract 0 N⟩) := by show _ = _; rw [M5.contC, if_neg hz, hx.out]
      rw [hT.out]
      go_enter Tryz.func160, Tryz.ntmps160
      go_wp2_with fail
      refine (hE.out _).mono ?_
      rintro e1 w1 ⟨rfl, hb1⟩
      rw [he, hEv]
      have bx1 := bx0.below hb1 bx0.lt
      have hbW1 := Lib.hid (bt hb0.out hb1)
      go_wp2_with fail
      refine (hC.out _).mono ?_
      rintro e1 w2 ⟨rfl, hb2⟩
      have bx2 := bx1.below hb2 bx1.lt
      have hbW2 := Lib.hid (bt hbW1.out hb2)
      have z0 := bx2.cell (i := 0) rfl
      have z1 := bx2.cell (i := 1) rfl
      have z2 := bx2.cell (i := 2) rfl
      have z3 := bx2.cell (i := 3) rfl
      have fz := bx2.free
      have bf := Lib.hid (bx2.four (.int .i64 3) (.string ⟨#[]⟩) (.slice none 0 0) (.string (s.extract 0 N)))
      clear hb1 hb2
      go_wp2_with fail
      have q0 := bf.out.cell (i := 0) rfl
      have q1 := bf.out.cell (i := 1) rfl
      have q2 := bf.out.cell (i := 2) rfl
      have q3 := bf.out.cell (i := 3) rfl
      exact bodyPost_ret (v := .tuple #[.agg #[.int .i64 3, .string ⟨#[]⟩, .slice none 0 0, .string (s.extract 0 N)], .int .i64 (N : Int)]) (by simp [results, Tryz.results160, go_sem, q0, q1, q2, q3]) rfl (tokPost_nil (by omega) (four_below hbW2.out _ _ _ _ (Nat.le_refl _)))
end Go.Proofs.YteefodibpjgicaaGreat

namespace Go.Proofs.YteefodibpjgicaaGreat
open Go.RowKit
structure AddKept (g0 g1 : Nat) (v : Value) (w w' : World) : Prop where
  size : w.heap.size ≤ w'.heap.size
  block : ∀ k, k < w.heap.size → k ≠ g0 → k ≠ g1 → v.ownBlock ≠ some k → w'.heap[k]? = w.heap[k]?
  os : w'.os = w.os
  tape : w'.tape = w.tape
  output : w'.output = w.output
def AddPost (g0 g1 B : Nat) (v : Value) (s : ByteArray) (l : List Tok) (w : World) (e : Ending) (w' : World) : Prop :=
  e = .returned (.tuple #[]) ∧ ∃ v', Box w' g1 61 [v'] ∧ Box w' g0 9 [.string s] ∧ Toks w' B v' l ∧ AddKept g0 g1 v w w'
set_option maxHeartbeats 4000000 in
set_option maxRecDepth 100000 in
theorem tokAdd (t : Tok) (n : Nat) (s : ByteArray) (l : List Tok) (v va : Value) (g0 g1 B : Nat) (w : World) (b0 : Box w g0 9 [.string s]) (b1 : Box w g1 61 [v]) (hne : g0 ≠ g1) (h0 : g0 < B) (h1 : g1 < B) (hB : B ≤ w.heap.size)
    (hl : Toks w B v l) (hll : l.length ≤ 1073741824) (hn : n ≤ s.size) (hrow : Row (fun b => B ≤ b ∧ b < w.heap.size ∧ v.ownBlock ≠ some b) w 2 va t.attrs.length (cellsA t.attrs)) :
    Calls Tryz.prog 157 #[.agg #[.int .i64 t.kind, .string t.name, va, .string t.text], .int .i64 (n : Int), .pointer (some ⟨g1, 0, none⟩), .pointer (some ⟨g0, 0, none⟩)] w (AddPost g0 g1 B v (s.extract n s.size) (l ++ M5.keepT t) w) := by
  obtain ⟨wo, rfl⟩ : ∃ wo : World, wo = w := ⟨_, rfl⟩
  obtain ⟨av, cv, rfl⟩ := hrow.slice
  obtain ⟨a2, c2, rfl⟩ := hl.slice
  have hb0 := Lib.hid ((Below.refl wo.heap.size wo).alloc (Nat.le_refl _) (.cells #[.int .i64 t.kind, .string t.name, .slice av t.attrs.length cv, .string t.text] 87))
  have c0 := b0.alloc (.cells #[.int .i64 t.kind, .string t.name, .slice av t.attrs.length cv, .string t.text] 87)
  have c1 := b1.alloc (.cells #[.int .i64 t.kind, .string t.name, .slice av t.attrs.length cv, .string t.text] 87)
  have hl0 := hl.alloc (.cells #[.int .i64 t.kind, .string t.name, .slice av t.attrs.length cv, .string t.text] 87)
  have bt0 := Box.new wo 87 [.int .i64 t.kind, .string t.name, .slice av t.attrs.length cv, .string t.text]
  have hrow0 : Row (fun b => B ≤ b ∧ b < wo.heap.size ∧ (Value.slice a2 l.length c2).ownBlock ≠ some b) (wo.alloc (.cells #[.int .i64 t.kind, .string t.name, .slice av t.attrs.length cv, .string t.text] 87)) 2 (.slice av t.attrs.length cv) t.attrs.length (cellsA t.attrs) := hrow.keep (fun b hb => hb0.out.block b hb.2.1)
  have hz0 : (wo.alloc (.cells #[.int .i64 t.kind, .string t.name, .slice av t.attrs.length cv, .string t.text] 87)).heap.size = wo.heap.size + 1 := by simp
  have x0 := c0.cell (i := 0) rfl
  have x1 := c1.cell (i := 0) rfl
  have f0 := c0.free 0
  have f1 := c1.free 0
  have e1 : (n : Int) ≤ (s.size : Int) := by omega
  by_cases hk : t.kind = 0
  · have hk' : (t.kind != 0) = false := by rw [hk]; rfl
    have hkeep : M5.keepT t = [] := by unfold M5.keepT; rw [if_neg (by simpa using hk)]
    rw [hkeep, List.append_nil]
    replace hk := Lib.hid hk
    obtain ⟨xs, hown, hrep⟩ := hl0
    go_enter Tryz.func157, Tryz.ntmps157
    go_upto_region 1 with fail
    generalize wo.alloc (.cells #[.int .i64 t.kind, .string t.name, .slice av t.attrs.length cv, .string t.text] 87) = w0 at *
    have t0 := bt0.cell (i := 0) rfl
    have t1 := bt0.cell (i := 1) rfl
    have t2 := bt0.cell (i := 2) rfl
    have t3 := bt0.cell (i := 3) rfl
    go_wp2_with fail
    go_end0
    have hz : (w0.setCell ⟨g0, 0, none⟩ (.string (s.extract n s.size))).heap.size = wo.heap.size + 1 := by simp [hz0]
    refine ⟨rfl, _, c1.far (p := ⟨g0, 0, none⟩) (Ne.symm hne) _, c0.set 0 (.string (s.extract n s.size)), Toks.set (⟨xs, hown, hrep⟩ : Toks w0 B _ l) h0 _, ⟨by omega, fun k hk0 h2 h3 h4 => ?_, hb0.out.os, hb0.out.tape, hb0.out.output⟩⟩
    rw [Below.heap_setCell w0 ⟨g0, 0, none⟩ _ k h2, hb0.out.block k hk0]
  · have hk' : (t.kind != 0) = true := bne_iff_ne.2 hk
    have hkeep : M5.keepT t = [t] := by unfold M5.keepT; rw [if_pos hk]
    rw [hkeep]
    replace hk := Lib.hid hk
    obtain ⟨xs, hown, hrep⟩ := hl0
    go_enter Tryz.func157, Tryz.ntmps157
    go_upto_region 1 with fail
    generalize wo.alloc (.cells #[.int .i64 t.kind, .string t.name, .slice av t.attrs.length cv, .string t.text] 87) = w0 at *
    have t0 := bt0.cell (i := 0) rfl
    have t1 := bt0.cell (i := 1) rfl
    have t2 := bt0.cell (i := 2) rfl
    have t3 := bt0.cell (i := 3) rfl
    obtain ⟨gne0, gne1⟩ : (Value.slice a2 l.length c2).ownBlock ≠ some g0 ∧ (Value.slice a2 l.length c2).ownBlock ≠ some g1 := ⟨fun e => by have := (hl.lt e).1; omega, fun e => by have := (hl.lt e).1; omega⟩
    go_wp2_with (at_builtin; refine wpList_appOne w0 [.int .i64 t.kind, .string t.name, .slice av t.attrs.length cv, .string t.text] rfl _ _ 61 87 rfl B 4 Tryz.underlying61 infoT5 rfl (by omega) _ l.length xs rfl hown (wo.heap.size + 1) hz0 (by rfl) rfl (by simp [Value.oneCell']) (by omega) (by omega) (by omega) ?_; intro gg cap' w5 hown5 hgrow hat5; have d0 := c0.keep (hgrow.block _ c0.lt (Ne.symm gne0)); have d1 := c1.keep (hgrow.block _ c1.lt (Ne.symm gne1)); have y0 := d0.cell (i := 0) rfl; have y1 := d1.cell (i := 0) rfl; have q0 := d0.free 0; have q1 := d1.free 0; have z0 := (d0.far (p := ⟨g1, 0, none⟩) hne (.slice (some ⟨gg, 0, none⟩) (l.length + 1) cap')).cell (i := 0) rfl)
    go_end0
    have hlist : Toks w5 B (.slice (some ⟨gg, 0, none⟩) (l.length + 1) cap') (l ++ [t]) := Toks.snoc (w := w0) hrep (hrow0.mono (fun b hb => ⟨hb.1, by omega, hb.2.2⟩)) hgrow hat5 hown5
    have hz5 := hgrow.size
    refine ⟨rfl, _, (d1.set 0 (.slice (some ⟨gg, 0, none⟩) (l.length + 1) cap')).far (p := ⟨g0, 0, none⟩) (Ne.symm hne) (.string (s.extract n s.size)), (d0.far (p := ⟨g1, 0, none⟩) hne (.slice (some ⟨gg, 0, none⟩) (l.length + 1) cap')).set 0 (.string (s.extract n s.size)), (hlist.set h1 _).set h0 _, ⟨by simp; omega, fun k hk0 h2 h3 h4 => ?_, hgrow.os.trans hb0.out.os, hgrow.tape.trans hb0.out.tape, hgrow.output.trans hb0.out.output⟩⟩
    rw [Below.heap_setCell _ ⟨g0, 0, none⟩ _ k h2, Below.heap_setCell _ ⟨g1, 0, none⟩ _ k h3, hgrow.block k (by omega) (Ne.symm h4), hb0.out.block k hk0]
end Go.Proofs.YteefodibpjgicaaGreat

namespace Go.Proofs.YteefodibpjgicaaGreat
open Go.RowKit
def ToksPost (l : List Tok) (w : World) (e : Ending) (w' : World) : Prop := ∃ v, e = .returned v ∧ Toks w' w.heap.size v l ∧ Below w.heap.size w w'
theorem AddKept.below {g0 g1 B : Nat} {v : Value} {l : List Tok} {wo w w' : World} (h : AddKept g0 g1 v w w') (hb : Below wo.heap.size wo w) (h0 : wo.heap.size ≤ g0) (h1 : wo.heap.size ≤ g1) (hB : wo.heap.size ≤ B) (hl : Toks w B v l) : Below wo.heap.size wo w' :=
  ⟨h.os.trans hb.os, h.tape.trans hb.tape, h.output.trans hb.output, Nat.le_trans hb.size h.size, fun k hk => by
    have hz := hb.size
    rw [h.block k (by omega) (by omega) (by omega) (fun e => by have := (hl.lt e).1; omega)]
    exact hb.block k hk⟩
theorem Toks.base {w : World} {B B' : Nat} {v : Value} {l : List Tok} (h : Toks w B v l) (hb : B' ≤ B) : Toks w B' v l := by
  obtain ⟨xs, h1, h2⟩ := h
  exact ⟨xs, own_le h1 hb, RepT.mono (fun b hb' => ⟨by omega, hb'.2.1, hb'.2.2⟩) _ _ h2⟩
theorem own_new {w w0 : World} {B n : Nat} {v va : Value} {l : List Tok} {xs : List Value} (h : w.ownsRow w0.heap.size 43 2 va n xs) (hl : Toks w0 B v l) (hB : B ≤ w0.heap.size) : Row (fun b => B ≤ b ∧ b < w.heap.size ∧ v.ownBlock ≠ some b) w 2 va n xs :=
  Row.own h (fun g hg => by
    have h1 := h.lt g hg
    exact ⟨by omega, h1.2, fun e => by have := (hl.lt e).2; omega⟩)
theorem keepT_len (t : Tok) : (M5.keepT t).length ≤ 1 := by unfold M5.keepT; split <;> simp
theorem bs_cut0 (R : List UInt8) (n : Nat) : (M5.bs R).extract n (M5.bs R).size = M5.bs (R.drop n) := by rw [bs_size, bs_drop]
theorem fold_len (l : List UInt8) : (M1.fold l).length = l.length := by unfold M1.fold; rw [List.length_map]
theorem begin_name_le (l : List UInt8) : (M5.beginR l).1.name.size ≤ l.length := by
  unfold M5.beginR
  split
  · show (M5.bs (M1.fold ((l.drop 1).takeWhile M5.nameB))).size ≤ _
    rw [bs_size, fold_len]
    have h1 := (List.takeWhile_prefix (l := l.drop 1) M5.nameB).length_le
    have h2 : (l.drop 1).length = l.length - 1 := List.length_drop
    omega
  · exact Nat.zero_le _
theorem tag_name_le (l : List UInt8) : (M5.tagR l).1.name.size ≤ l.length := by
  unfold M5.tagR
  split
  · split
    · rename_i c d r _
      split
      · exact begin_name_le _
      · split
        · exact Nat.zero_le _
        · split
          · exact Nat.zero_le _
          · split
            · split
              · show (M5.bs (M1.fold (r.takeWhile M5.nameB))).size ≤ _
                rw [bs_size, fold_len]
                have h1 := (List.takeWhile_prefix (l := r) M5.nameB).length_le
                simp only [List.length_cons]
                omega
              · exact Nat.zero_le _
            · exact Nat.zero_le _
    · exact Nat.zero_le _
  · exact Nat.zero_le _
set_option maxHeartbeats 8000000 in
set_option maxRecDepth 100000 in
theorem tokTokens (s : ByteArray) (w : World) (hg : Glo w) (hs : s.size ≤ 1073741824) : Calls Tryz.prog 156 #[.string s] w (ToksPost (M5.tokens s.data.toList) w) := by
  obtain ⟨wo, rfl⟩ : ∃ wo : World, wo = w := ⟨_, rfl⟩
  have hE : ∀ (args : Array Value) (w : World), (callFunc 157 args).run Tryz.prog w = .ok (.enter 157 args) w := enters_of Tryz.func157 (by kernel_rfl) rfl
  obtain ⟨T, hT⟩ : ∃ T, Hid (T = M5.tokens s.data.toList) := ⟨_, rfl⟩
  rw [← hT.out]
  have bs0 := (Box.new wo 9 [.string s]).alloc (.cells #[.slice none 0 0] 61)
  have bo0 := Box.new (wo.alloc (.cells #[.string s] 9)) 61 [.slice none 0 0]
  have hb0 := ((Below.refl _ wo).alloc (Nat.le_refl _) (.cells #[.string s] 9)).alloc (by simp) (.cells #[.slice none 0 0] 61)
  have hz0 : (wo.alloc (.cells #[.string s] 9)).heap.size = wo.heap.size + 1 := by simp
  rw [hz0] at bo0
  go_enter Tryz.func156, Tryz.ntmps156
  go_wp2_with fail
  go_loopw [] (fun wr => ∃ (R : List UInt8) (acc : List Tok) (v : Value), Box wr wo.heap.size 9 [.string (M5.bs R)] ∧ Box wr (wo.heap.size + 1) 61 [v] ∧ Toks wr (wo.heap.size + 2) v acc ∧ Below wo.heap.size wo wr ∧ wo.heap.size + 2 ≤ wr.heap.size ∧ acc.length + R.length ≤ s.size ∧ Hid (T = acc ++ M5.toksR [] R)) (fun wr => strLen ((wr.cell? ⟨wo.heap.size, 0, none⟩).getD undef))
  case atStart => exact ⟨s.data.toList, [], .slice none 0 0, by rw [M5.bs_of]; exact bs0, bo0, Toks.nil _ _, hb0, by simp, by show 0 + s.size ≤ s.size; omega, by show _ = _; rw [hT.out, M5.tokens_eq, List.nil_append]⟩
  case round =>
    obtain ⟨R, acc, v, bs1, bo1, hl, hbw, hws, hal, hv⟩ := hrel
    have hRz : (M5.bs R).size = R.length := bs_size R
    have x0 := bs1.cell (i := 0) rfl
    have x1 := bo1.cell (i := 0) rfl
    have hmeas : ∀ (w' : World) (R' : List UInt8), Box w' wo.heap.size 9 [.string (M5.bs R')] → R'.length < R.length → strLen ((w'.cell? ⟨wo.heap.size, 0, none⟩).getD undef) < strLen ((wr.cell? ⟨wo.heap.size, 0, none⟩).getD undef) := fun w' R' hb hlt => by
      rw [hb.cell (i := 0) rfl, x0]
      show (M5.bs R').size < (M5.bs R).size
      rw [bs_size, hRz]
      exact hlt
    replace hmeas := Lib.hid hmeas
    by_cases hR : R = []
    · have hem : (M5.bs R).toList.isEmpty = true := isEmpty_yes _ (by rw [hRz, hR]; rfl)
      have hne : (!(M5.bs R).toList.isEmpty) = false := by rw [hem]; rfl
      have hTe : T = acc := by rw [hv.out, hR, M5.toksR_nil]; simp [M5.charsT]
      replace hR := Lib.hid hR
      replace hTe := Lib.hid hTe
      go_wp2_with fail
      go_ret
      exact ⟨v, rfl, by rw [hTe.out]; exact hl.base (by omega), hbw⟩
    · have hRp : 0 < R.length := List.length_pos_iff.2 hR
      have hem : (M5.bs R).toList.isEmpty = false := isEmpty_no _ (by omega)
      have hne : (!(M5.bs R).toList.isEmpty) = true := by rw [hem]; rfl
      have hTag := Lib.hid (tokTag (M5.bs R) wr (hg.below hbw (Nat.le_refl _)) (by omega))
      rw [M5.bs_data, hRz] at hTag
      replace hR := Lib.hid hR
      go_wp2_with fail
      refine hTag.out.mono ?_
      rintro e1 w2 ⟨va, rfl, hown, hb2⟩
      have bs2 := bs1.below hb2 bs1.lt
      have bo2 := bo1.below hb2 bo1.lt
      have hl2 := hl.below hb2
      have hbw2 := Lib.hid (bt hbw hb2)
      have hws2 : wo.heap.size + 2 ≤ w2.heap.size := Nat.le_trans hws hb2.size
      have hlr := hl
      have hwsr := hws
      clear x0 x1 bs1 bo1 hl hbw hws hb2
      cases hsB : M5.startsB R
      · have htg : M5.tagR R = (M5.zero, R.drop 0) := tag_no R hsB
        have hn0 : R.length - (M5.tagR R).2.length = 0 := by rw [htg]; show R.length - (R.drop 0).length = 0; rw [List.drop_zero]; omega
        clear hTag htg
        generalize (M5.tagR R).1 = t0 at *
        rw [hn0]
        clear hn0
        obtain ⟨a0, c0, rfl⟩ := own_slice5 hown
        have hCh := Lib.hid (fun w => tokChars (M5.bs R) w (by omega))
        rw [M5.bs_data] at hCh
        have hstep := Lib.hid (M5.toks_step R hR.out hsB)
        have hpos := M5.plain_pos R hR.out hsB
        have hple := M5.plainN_le R
        obtain ⟨N, hN⟩ : ∃ N, N = M5.plainN R := ⟨_, rfl⟩
        rw [← hN] at hCh hstep hpos hple
        obtain ⟨t, ht⟩ : ∃ t, t = M5.charsC R := ⟨_, rfl⟩
        rw [← ht] at hCh
        have hk1 : (t.kind == 1) = false := by rw [ht]; rfl
        have hstep2 : Hid (M5.toksR [] R = M5.keepT t ++ M5.toksR [] (R.drop N)) := by
          show _ = _
          rw [hstep.out, ht]
          unfold M5.charsC
          rw [← hN]
          rfl
        replace ht := Lib.hid ht
        replace hN := Lib.hid hN
        clear hstep hown
        have bt3 := Box.new w2 87 [.int .i64 t0.kind, .string t0.name, .slice a0 t0.attrs.length c0, .string t0.text]
        have hb3 := (Below.refl w2.heap.size w2).alloc (Nat.le_refl _) (.cells #[.int .i64 t0.kind, .string t0.name, .slice a0 t0.attrs.length c0, .string t0.text] 87)
        have y0 := (bs2.alloc (.cells #[.int .i64 t0.kind, .string t0.name, .slice a0 t0.attrs.length c0, .string t0.text] 87)).cell (i := 0) rfl
        replace hb3 := Lib.hid hb3
        go_wp2_with fail
        refine (hCh.out _).mono ?_
        rintro e1 w4 ⟨vb, rfl, hown4, hb4⟩
        have bt4 := bt3.below hb4 bt3.lt
        have hb24 := bt hb3.out hb4
        have z0 := bt4.cell (i := 0) rfl
        have z1 := bt4.cell (i := 1) rfl
        have z2 := bt4.cell (i := 2) rfl
        have z3 := bt4.cell (i := 3) rfl
        have fz := bt4.free
        obtain ⟨a4, c4, rfl⟩ := own_slice5 hown4
        have bt5 := Lib.hid (bt4.four (.int .i64 t.kind) (.string t.name) (.slice a4 t.attrs.length c4) (.string t.text))
        have hb25 := Lib.hid (four_below hb24 (g := w2.heap.size) (.int .i64 t.kind) (.string t.name) (.slice a4 t.attrs.length c4) (.string t.text) (Nat.le_refl _))
        have hown5 := Lib.hid (own_four (g := w2.heap.size) hown4 (by simp) (.int .i64 t.kind) (.string t.name) (.slice a4 t.attrs.length c4) (.string t.text))
        clear hb4 hb24 hown4 y0 bt3
        go_upto_region 7 with fail
        generalize ((((w4.setCell ⟨w2.heap.size, 0, none⟩ (.int .i64 t.kind)).setCell ⟨w2.heap.size, 1, none⟩ (.string t.name)).setCell ⟨w2.heap.size, 2, none⟩ (.slice a4 t.attrs.length c4)).setCell ⟨w2.heap.size, 3, none⟩ (.string t.text)) = w5 at *
        clear bt4 z0 z1 z2 z3 fz
        have u0 := bt5.out.cell (i := 0) rfl
        have u1 := bt5.out.cell (i := 1) rfl
        have u2 := bt5.out.cell (i := 2) rfl
        have u3 := bt5.out.cell (i := 3) rfl
        have hz5 := hb25.out.size
        have hadd := Lib.hid (tokAdd t N (M5.bs R) acc v (.slice a4 t.attrs.length c4) wo.heap.size (wo.heap.size + 1) (wo.heap.size + 2) w5 (bs2.below hb25.out bs2.lt) (bo2.below hb25.out bo2.lt) (by omega) (by omega) (by omega) (by omega) (hl2.below hb25.out) (by omega) (by omega) (own_new (own_le hown5.out (by simp)) hl2 hws2))
        go_wp2_with fail
        refine hadd.out.mono ?_
        rintro e1 w6 ⟨rfl, v6, bo6, bs6, hl6, hk6⟩
        have hvt : v.ownBlock ≠ some w2.heap.size := fun e => by have := (hl2.lt e).2; omega
        have bt6 := bt5.out.keep (hk6.block _ bt5.out.lt (by omega) (by omega) hvt)
        rw [bs_cut0] at bs6
        have hb26 := Lib.hid (hk6.below (bt hbw2.out hb25.out) (Nat.le_refl _) (by omega) (by omega) (hl2.below hb25.out))
        have u0 := bt6.cell (i := 0) rfl
        have u1 := bt6.cell (i := 1) rfl
        go_wp2_with fail
        go_roundw
        case rel => exact ⟨R.drop N, acc ++ M5.keepT t, v6, bs6, bo6, hl6, hb26.out, by have := hk6.size; omega, by have := keepT_len t; rw [List.length_append, List.length_drop]; omega, by show _ = _; rw [hv.out, hstep2.out, List.append_assoc]⟩
        case measure => exact hmeas.out _ _ bs6 (by rw [List.length_drop]; omega)
      · have htl := M5.tag_lt R hsB
        have hat := (M5.tag_suf R).at_
        have hle := (M5.tag_suf R).le
        have hnm := tag_name_le R
        obtain ⟨N, hN⟩ : ∃ N, Hid (N = R.length - (M5.tagR R).2.length) := ⟨_, rfl⟩
        rw [← hN.out] at hat ⊢
        have hNp : 0 < N := by rw [hN.out]; omega
        have hNle : N ≤ R.length := by rw [hN.out]; omega
        have hraw := M5.round_raw R hsB
        have htag := M5.round_tag R hsB
        rw [← hat] at hraw htag
        have hrl : (R.drop N).length = R.length - N := List.length_drop
        clear hTag htl hat hle
        generalize (M5.tagR R).1 = t at *
        obtain ⟨a0, c0, rfl⟩ := own_slice5 hown
        have bt3 := Box.new w2 87 [.int .i64 t.kind, .string t.name, .slice a0 t.attrs.length c0, .string t.text]
        have hb3 := (Below.refl w2.heap.size w2).alloc (Nat.le_refl _) (.cells #[.int .i64 t.kind, .string t.name, .slice a0 t.attrs.length c0, .string t.text] 87)
        have hown3 := hown.alloc (.cells #[.int .i64 t.kind, .string t.name, .slice a0 t.attrs.length c0, .string t.text] 87)
        have hNz : ((N : Int) == 0) = false := by rw [beq_eq_false_iff_ne]; omega
        replace hb3 := Lib.hid hb3
        replace hown3 := Lib.hid hown3
        replace hraw := Lib.hid hraw
        replace htag := Lib.hid htag
        replace hN := Lib.hid hN
        clear hown
        go_upto_region 7 with fail
        have hz3 : w2.heap.size < (w2.alloc (.cells #[.int .i64 t.kind, .string t.name, .slice a0 t.attrs.length c0, .string t.text] 87)).heap.size := bt3.lt
        generalize w2.alloc (.cells #[.int .i64 t.kind, .string t.name, .slice a0 t.attrs.length c0, .string t.text] 87) = w3 at *
        have u0 := bt3.cell (i := 0) rfl
        have u1 := bt3.cell (i := 1) rfl
        have u2 := bt3.cell (i := 2) rfl
        have u3 := bt3.cell (i := 3) rfl
        have hl3 := hl2.below hb3.out
        have hadd := Lib.hid (tokAdd t N (M5.bs R) acc v (.slice a0 t.attrs.length c0) wo.heap.size (wo.heap.size + 1) (wo.heap.size + 2) w3 (bs2.below hb3.out bs2.lt) (bo2.below hb3.out bo2.lt) (by omega) (by omega) (by omega) (by omega) hl3 (by omega) (by omega) (own_new hown3.out hlr hwsr))
        go_wp2_with fail
        refine hadd.out.mono ?_
        rintro e1 w6 ⟨rfl, v6, bo6, bs6, hl6, hk6⟩
        have hvt : v.ownBlock ≠ some w2.heap.size := fun e => by have := (hl2.lt e).2; omega
        have bt6 := bt3.keep (hk6.block _ bt3.lt (by omega) (by omega) hvt)
        rw [bs_cut0] at bs6
        have hb26 := Lib.hid (hk6.below (bt hbw2.out hb3.out) (Nat.le_refl _) (by omega) (by omega) hl3)
        have u0 := bt6.cell (i := 0) rfl
        have u1 := bt6.cell (i := 1) rfl
        have hz6 := hk6.size
        have hlen6 : (acc ++ M5.keepT t).length + (R.drop N).length ≤ s.size := by have := keepT_len t; rw [List.length_append, hrl]; omega
        by_cases hk1 : t.kind = 1
        · have ek : (t.kind == 1) = true := beq_iff_eq.2 hk1
          have hRaw := Lib.hid (fun w => domRaw t.name w)
          replace hk1 := Lib.hid hk1
          cases hrw : M3.rawB t.name.data.toList
          · have hst := htag.out (fun h => by rw [hrw] at h; cases h.2)
            replace hst := Lib.hid hst
            replace hrw := Lib.hid hrw
            go_wp2_with fail
            refine (hRaw.out _).mono ?_
            rintro e1 w7 ⟨rfl, rfl⟩
            rw [hrw.out]
            go_wp2_with fail
            go_roundw
            case rel => exact ⟨R.drop N, acc ++ M5.keepT t, v6, bs6, bo6, hl6, hb26.out, by omega, hlen6, by show _ = _; rw [hv.out, hst.out, List.append_assoc]⟩
            case measure => exact hmeas.out _ _ bs6 (by omega)
          · have hst := hraw.out ⟨hk1.out, hrw⟩
            have hnms : t.name.size ≤ 1073741824 := by omega
            have hC := Lib.hid (fun w => tokContent (M5.bs (R.drop N)) t.name w (by rw [bs_size]; omega) hnms)
            rw [M5.bs_data] at hC
            have hEle := M5.endN_le t.name.data.toList (R.drop N)
            generalize M5.endN t.name.data.toList (R.drop N) = E at *
            have hctl : (M5.keepT (M5.contC E (R.drop N))).length ≤ E := by
              have h1 := keepT_len (M5.contC E (R.drop N))
              by_cases hE0 : E = 0
              · subst hE0
                exact Nat.le_refl _
              · omega
            generalize M5.contC E (R.drop N) = ct at *
            replace hst := Lib.hid hst
            replace hrw := Lib.hid hrw
            have x6 := bs6.cell (i := 0) rfl
            go_wp2_with fail
            refine (hRaw.out _).mono ?_
            rintro e1 w7 ⟨rfl, rfl⟩
            rw [hrw.out]
            go_wp2_with fail
            refine (hC.out _).mono ?_
            rintro e1 w8 ⟨vc, rfl, hown8, hb8⟩
            have bs8 := bs6.below hb8 bs6.lt
            have bo8 := bo6.below hb8 bo6.lt
            have hl8 := hl6.below hb8
            have hb28 := Lib.hid (bt hb26.out hb8)
            have hz8 := hb8.size
            have hadd2 := Lib.hid (tokAdd ct E (M5.bs (R.drop N)) (acc ++ M5.keepT t) v6 vc wo.heap.size (wo.heap.size + 1) (wo.heap.size + 2) w8 bs8 bo8 (by omega) (by omega) (by omega) (by omega) hl8 (by omega) (by rw [bs_size]; exact hEle) (own_new hown8 hl6 (by omega)))
            obtain ⟨a8, c8, rfl⟩ := own_slice5 hown8
            clear x6 u0 u1 hb8
            go_wp2_with fail
            refine hadd2.out.mono ?_
            rintro e1 w9 ⟨rfl, v9, bo9, bs9, hl9, hk9⟩
            have hb29 := Lib.hid (hk9.below hb28.out (Nat.le_refl _) (by omega) (by omega) hl8)
            have hz9 := hk9.size
            rw [bs_cut0] at bs9
            go_wp2_with fail
            go_roundw
            case rel => exact ⟨(R.drop N).drop E, acc ++ M5.keepT t ++ M5.keepT ct, v9, bs9, bo9, hl9, hb29.out, by omega, by rw [List.length_append, List.length_drop]; omega, by show _ = _; rw [hv.out, hst.out, List.append_assoc, List.append_assoc]⟩
            case measure => exact hmeas.out _ _ bs9 (by rw [List.length_drop]; omega)
        · have ek : (t.kind == 1) = false := beq_eq_false_iff_ne.2 hk1
          have hst := htag.out (fun h => hk1 h.1)
          replace hk1 := Lib.hid hk1
          replace hst := Lib.hid hst
          go_wp2_with fail
          go_roundw
          case rel => exact ⟨R.drop N, acc ++ M5.keepT t, v6, bs6, bo6, hl6, hb26.out, by omega, hlen6, by show _ = _; rw [hv.out, hst.out, List.append_assoc]⟩
          case measure => exact hmeas.out _ _ bs6 (by omega)
end Go.Proofs.YteefodibpjgicaaGreat

namespace Go.Proofs.YteefodibpjgicaaGreat
open Go.RowKit
theorem glo_of {w : World} (h : w.ShapedOpen Tryz.prog) : Glo w := Tryz.laysM145.s1_3 w h
theorem Sl.len8 {w : World} {v : Value} {l : List UInt8} (h : Sl w v (u8s l)) : ∃ a cap, v = .slice a l.length cap ∧ l.length ≤ cap ∧ cap ≤ 9223372036854775807 := by
  obtain ⟨a, cap, rfl, h2, h3, _, _⟩ := h
  rw [u8s_length] at *
  exact ⟨a, cap, rfl, h2, h3⟩
end Go.Proofs.YteefodibpjgicaaGreat

namespace Go.Proofs.YteefodibpjgicaaGreat
open Go.RowKit
set_option maxHeartbeats 4000000 in
set_option maxRecDepth 100000 in
theorem writeElement {B F g : Nat} {P : List UInt8 → World → Prop} (hp : Puts B F g P) (S : Nat → Prop) (x : Nd) (va vk : Value) (acc : List UInt8) (w w0 : World) (hS : ∀ b, S b → b < B) (hx : RepV S w0 x va vk) (hw : Below B w0 w) (hf : Fit1 x) (hP : P acc w) (hk1 : x.kind = 1)
    (hN : ∀ (acc : List UInt8) (raw : Bool) (W : World), Below B w0 W → P acc W → acc.length + (M4.textB raw x.kids).length ≤ 70368744177664 → Calls Tryz.prog 98 #[vk, .bool raw, .func (.func F) #[] #[.pointer (some ⟨g, 0, none⟩)]] W (PutPost B P (acc ++ M4.textB raw x.kids) W))
    (hl : acc.length + (M4.oneB false x).length ≤ 70368744177664) :
    Calls Tryz.prog 108 #[x.val va vk, .func (.func F) #[] #[.pointer (some ⟨g, 0, none⟩)]] w (PutPost B P (acc ++ M4.oneB false x) w) := by
  obtain ⟨a1, e1, hva⟩ := hx.at_.slice
  obtain ⟨a2, e2, hvk⟩ := hx.kids.slice
  subst hva hvk
  rw [M4.oneB_1 hk1] at hl ⊢
  cases x with | mk k n ats t ks =>
  have hB := hp.base _ _ hP
  have hb0 : Below w.heap.size w (w.alloc (.cells #[.int .i64 k, .string n, .slice a1 ats.length e1, .string t, .slice a2 ks.length e2] 41)) := (Below.refl _ _).alloc (Nat.le_refl _) _
  have hbx := Box.new w 41 [.int .i64 k, .string n, .slice a1 ats.length e1, .string t, .slice a2 ks.length e2]
  have hP0 := hp.stab _ _ _ hP hb0
  have hk0 := Lib.hid (Kw.of_below hb0 hB)
  rw [List.length_append, List.length_append] at hl
  have hBeg := Lib.hid (fun (W : World) (hW : Below B w W) (hP : P acc W) => writeBegin hp S (.mk k n ats t ks) (.slice a1 ats.length e1) (.slice a2 ks.length e2) acc W w0 hS hx (hw.trans hW) hf hP (by omega))
  have hEnd := Lib.hid (fun (acc : List UInt8) (W : World) (hP : P acc W) (hl : acc.length + (M4.endB n).length ≤ 70368744177664) => writeEnd hp (.mk k n ats t ks) (.slice a1 ats.length e1) (.slice a2 ks.length e2) acc W ⟨_, _, _, rfl⟩ ⟨_, _, _, rfl⟩ hP hl)
  replace hN := Lib.hid hN
  replace hw := Lib.hid hw
  clear hx hf hk1
  simp only [Nd.kind, Nd.name, Nd.text, Nd.attrs, Nd.kids, Nd.val] at *
  go_enter Tryz.func108, Tryz.ntmps108
  go_wp2_with (fail)
  refine (hBeg.out _ (hb0.mono hB) hP0).mono ?_
  rintro e w1 ⟨rfl, hP1, hk1⟩
  have hb1 := hk1.box hbx (.inl rfl)
  have d1 := hb1.cell (i := 1) rfl
  have hka := Lib.hid (hk0.out.trans hk1)
  clear hbx hP0 hb0 hBeg hk1
  go_wp2_with (fail)
  refine (domVoid _ _).mono ?_
  rintro e w1 ⟨rfl, rfl⟩
  cases hvd : M3.voidB n.data.toList
  · rw [hvd] at hl
    rw [M4.innerB_no] at hl
    have d4 := hb1.cell (i := 4) rfl
    have hkd : Below w1.heap.size w1 w1.drew := (Below.refl _ w1).drew
    have hPd := hp.stab _ _ _ hP1 hkd
    have hkd2 := Lib.hid (hka.out.trans (Kw.of_below hkd (hp.base _ _ hP1)))
    have hNN := Lib.hid (hN.out (acc ++ M4.headB n ats) (M3.rawB n.data.toList) w1.drew (hw.out.trans hkd2.out.low) hPd (by rw [List.length_append]; omega))
    have hbd := hb1.below hkd hb1.lt
    replace hbd := Lib.hid hbd
    replace hPd := Lib.hid hPd
    clear hkd
    go_wp2_with (fail)
    refine wp_region_still_tail 6 (by kernel_rfl) (by kernel_rfl) ?_
    simp only [List.take_succ_cons, List.take_zero, List.drop_succ_cons, List.drop_zero]
    repeat still_step
    still_call (domRaw _ _)
    repeat still_step
    refine wpStill_nil ?_
    change wpList _ _ _ _ _ w1.drew
    go_wp2_with (fail)
    refine hNN.out.mono ?_
    rintro e w2 ⟨rfl, hP2, hk2⟩
    have hb2 := hk2.box hbd.out (.inl rfl)
    have f0 := hb2.cell (i := 0) rfl
    have f1 := hb2.cell (i := 1) rfl
    have f2 := hb2.cell (i := 2) rfl
    have f3 := hb2.cell (i := 3) rfl
    have f4 := hb2.cell (i := 4) rfl
    clear hNN d1 d4 hb1
    go_wp2_with (fail)
    refine (hEnd.out _ _ hP2 (by simp only [List.length_append]; omega)).mono ?_
    rintro e w3 ⟨rfl, hP3, hk3⟩
    have hab : Hid (acc ++ M4.headB n ats ++ M4.textB (M3.rawB n.data.toList) ks ++ M4.endB n = acc ++ (M4.headB n ats ++ (M4.innerB false (M3.rawB n.data.toList) ks ++ M4.endB n))) := by show _ = _; rw [M4.innerB_no]; simp
    have hP4 := Lib.hid (hab.out ▸ hP3 : P (acc ++ (M4.headB n ats ++ (M4.innerB false (M3.rawB n.data.toList) ks ++ M4.endB n))) w3)
    clear hP3 hab
    go_wp2_with (fail)
    go_end0
    exact ⟨rfl, by rw [hvd]; exact hP4.out, (hkd2.out.trans hk2).trans hk3⟩
  · rw [hvd] at hl
    have f0 := hb1.cell (i := 0) rfl
    have f2 := hb1.cell (i := 2) rfl
    have f3 := hb1.cell (i := 3) rfl
    have f4 := hb1.cell (i := 4) rfl
    rw [M4.innerB_yes] at hl ⊢
    go_wp2_with (fail)
    refine (hEnd.out _ _ hP1 (by simp only [List.length_append, List.length_nil] at *; omega)).mono ?_
    rintro e w3 ⟨rfl, hP3, hk3⟩
    have hab : Hid (acc ++ M4.headB n ats ++ M4.endB n = acc ++ (M4.headB n ats ++ ([] ++ M4.endB n))) := by show _ = _; simp
    have hP4 := Lib.hid (hab.out ▸ hP3 : P (acc ++ (M4.headB n ats ++ ([] ++ M4.endB n))) w3)
    clear hP3 hab
    go_wp2_with (fail)
    go_end0
    exact ⟨rfl, by rw [hvd, M4.innerB_yes]; exact hP4.out, hka.out.trans hk3⟩
theorem fitN_mem {x : Nd} {l : List Nd} (h : FitN l) (hx : x ∈ l) : Fit1 x ∧ FitN x.kids := by
  induction l with
  | nil => cases hx
  | cons y r ih =>
    obtain ⟨h1, h2, h3⟩ := fitN_cons.1 h
    rcases List.mem_cons.1 hx with rfl | hx
    · exact ⟨h1, h2⟩
    · exact ih h3 hx
theorem RepN.look {S : Nat → Prop} {w w' : World} {a : Option Addr} {n cap : Nat} {l : List Nd} {B : Nat} (h : RepN S w (.slice a n cap) l) (hS : ∀ b, S b → b < B) (hw : Below B w w') (i : Nat) (hi : i < l.length) :
    ∃ b off va vk, a = some ⟨b, off, none⟩ ∧ S b ∧ w'.cell? ⟨b, off + i * 5, none⟩ = some (.int .i64 l[i].kind) ∧ w'.cell? ⟨b, off + i * 5 + 1, none⟩ = some (.string l[i].name) ∧ w'.cell? ⟨b, off + i * 5 + 2, none⟩ = some va ∧
      w'.cell? ⟨b, off + i * 5 + 3, none⟩ = some (.string l[i].text) ∧ w'.cell? ⟨b, off + i * 5 + 4, none⟩ = some vk ∧ RepV S w l[i] va vk := by
  obtain ⟨b, off, va, vk, h1, h2, c0, c1, c2, c3, c4, h3⟩ := h.at_ i hi
  have hb := hS b h2
  have k := fun o => hw.cell (p := ⟨b, o, none⟩) hb
  exact ⟨b, off, va, vk, h1, h2, (k _).trans c0, (k _).trans c1, (k _).trans c2, (k _).trans c3, (k _).trans c4, h3⟩
set_option maxHeartbeats 4000000 in
set_option maxRecDepth 100000 in
theorem writeNodes {B F g : Nat} {P : List UInt8 → World → Prop} (hp : Puts B F g P) (w0 : World) (S : Nat → Prop) (hS : ∀ b, S b → b < B) (wt : Nat) : ∀ (v : Value) (l : List Nd) (raw : Bool) (acc : List UInt8) (w : World), M3.weight l < wt → FitN l → RepN S w0 v l → Below B w0 w → P acc w → acc.length + (M4.textB raw l).length ≤ 70368744177664 →
    Calls Tryz.prog 98 #[v, .bool raw, .func (.func F) #[] #[.pointer (some ⟨g, 0, none⟩)]] w (PutPost B P (acc ++ M4.textB raw l) w) := by
  induction wt with
  | zero => intro v l raw acc w h; omega
  | succ wt ih =>
  intro v l raw acc w hwt hfit hr hw hP hl
  obtain ⟨a, cap, rfl⟩ := hr.slice
  obtain ⟨_, hlc, hcm⟩ := hr.len
  have hE := hp.enter
  have hB := hp.base _ _ hP
  replace ih := Lib.hid ih
  replace hfit := Lib.hid hfit
  replace hw := Lib.hid hw
  have h0 : P (acc ++ M4.textB raw (l.take 0)) w := by rw [List.take_zero, M4.textB_nil, List.append_nil]; exact hP
  go_enter Tryz.func98, Tryz.ntmps98
  go_wp2_with fail
  go_loopw [7, 10] (fun _ u10 wr => ∃ i : Nat, i ≤ l.length ∧ u10 = .int .i64 (i : Int) ∧ P (acc ++ M4.textB raw (l.take i)) wr ∧ Kw B w wr) (fun _ u10 _ => l.length - (intOf u10).toNat)
  case atStart => exact ⟨0, by omega, rfl, h0, Kw.refl _ _⟩
  case round =>
    obtain ⟨i, hi, rfl, hP3, hk3⟩ := hrel
    by_cases hlt : i < l.length
    · have hrw := hw.out.trans hk3.low
      obtain ⟨b, off, va, vk, rfl, hSb, c0, c1, c2, c3, c4, hrv⟩ := hr.look hS hrw i hlt
      have hbl := hS b hSb
      have hz3 := hp.base _ _ hP3
      have hfx := fitN_mem hfit.out (List.getElem_mem hlt)
      have hwk := weight_mem (List.getElem_mem hlt)
      have hpre := M4.textB_prefix raw l (i + 1)
      have htk := M4.textB_take raw l i hlt
      rw [htk] at hpre
      rw [List.length_append] at hpre
      have hl3 : (acc ++ M4.textB raw (l.take i)).length + (M4.oneB raw l[i]).length ≤ 70368744177664 := by rw [List.length_append]; omega
      have hab : Hid (acc ++ M4.textB raw (l.take i) ++ M4.oneB raw l[i] = acc ++ M4.textB raw (l.take (i + 1))) := by show _ = _; rw [htk, List.append_assoc]
      clear hpre htk
      generalize l[i] = x at *
      generalize hA2 : acc ++ M4.textB raw (l.take (i + 1)) = A2 at *
      replace hA2 := Lib.hid hA2
      generalize acc ++ M4.textB raw (l.take i) = A1 at *
      obtain ⟨a1, e1, rfl⟩ := hrv.at_.slice
      obtain ⟨a2, e2, rfl⟩ := hrv.kids.slice
      have bo := (Below.refl _ wr).alloc (Nat.le_refl _) (.cells (x.cells (.slice a1 x.attrs.length e1) (.slice a2 x.kids.length e2)).toArray 41)
      have hP4 := hp.stab _ _ _ hP3 bo
      have hk4 := Lib.hid (hk3.trans (Kw.of_below bo hz3))
      have bx := Box.new wr 41 (x.cells (.slice a1 x.attrs.length e1) (.slice a2 x.kids.length e2))
      have hI0 : (i : Int) < (l.length : Int) := by omega
      have fin : ∀ W, P (A1 ++ M4.oneB raw x) W → P A2 W := fun W h => hab.out ▸ h
      replace fin := Lib.hid fin
      clear hab hP3 hk3
      have hrb := hrw.trans (bo.mono hz3)
      replace hrw := Lib.hid hrw
      by_cases k1 : x.kind = 1
      · have hEl := Lib.hid (writeElement hp S x (.slice a1 x.attrs.length e1) (.slice a2 x.kids.length e2) A1 _ w0 hS hrv hrb hfx.1 hP4 k1 (fun acc raw W hW hPW hlW => ih.out _ _ raw acc W (by omega) hfx.2 hrv.kids hW hPW hlW) (by rw [M4.oneB_1 k1] at hl3 ⊢; exact hl3))
        have fin2 := Lib.hid (fun W (h : P (A1 ++ M4.oneB false x) W) => fin.out W (by rw [M4.oneB_1 k1] at h ⊢; exact h))
        have k1b : (x.kind == 1) = true := by simpa using k1
        replace k1 := Lib.hid k1
        clear fin hrb
        go_wp2_with fail
        refine hEl.out.mono ?_
        rintro e w2 ⟨rfl, hP5, hk5⟩
        have hP6 := Lib.hid (fin2.out _ hP5)
        go_wp2_with fail
        go_roundw
        case rel => exact ⟨i + 1, by omega, by go_num, by rw [hA2.out]; exact hP6.out, hk4.out.trans hk5⟩
        case measure => exact wr_meas hlt
      have k1b : (x.kind == 1) = false := by simpa using k1
      by_cases k2 : x.kind = 2
      · have hsz := hfx.1.2.1
        rw [M4.oneB_2 k2] at hl3
        have hTx := Lib.hid (writeText hp x.text raw A1 _ hP4 (by omega) hl3)
        have fin2 := Lib.hid (fun W (h : P (A1 ++ M4.charsB raw x.text) W) => fin.out W (by rw [M4.oneB_2 k2]; exact h))
        have k2b : (x.kind == 2) = true := by simpa using k2
        replace k2 := Lib.hid k2
        clear fin hrb
        go_wp2_with fail
        refine hTx.out.mono ?_
        rintro e w2 ⟨rfl, hP5, hk5⟩
        have hP6 := Lib.hid (fin2.out _ hP5)
        go_wp2_with fail
        go_roundw
        case rel => exact ⟨i + 1, by omega, by go_num, by rw [hA2.out]; exact hP6.out, hk4.out.trans hk5⟩
        case measure => exact wr_meas hlt
      have k2b : (x.kind == 2) = false := by simpa using k2
      by_cases k3 : x.kind = 3
      · have hsz := hfx.1.2.1
        rw [M4.oneB_3 k3, M4.commB_len] at hl3
        have fin2 := Lib.hid (fun W (h : P (A1 ++ (⟨#[60, 33, 45, 45]⟩ : ByteArray).data.toList ++ x.text.data.toList ++ (⟨#[45, 45, 62]⟩ : ByteArray).data.toList) W) => fin.out W (by rw [M4.oneB_3 k3, M4.commB]; simpa using h))
        have k3b : (x.kind == 3) = true := by simpa using k3
        replace k3 := Lib.hid k3
        clear fin hrb
        go_wp2_with fail
        refine (hp.call A1 ⟨#[60, 33, 45, 45]⟩ _ hP4 (by show A1.length + 4 ≤ _; omega)).mono ?_
        rintro e w2 ⟨rfl, hP5, hk5⟩
        have bx1 := hk5.box bx (.inl rfl)
        have d3 := bx1.cell (i := 3) rfl
        clear bx c0 c1 c2 c3 c4
        go_wp2_with fail
        refine (hp.call _ x.text _ hP5 (by rw [List.length_append]; show A1.length + 4 + x.text.size ≤ _; omega)).mono ?_
        rintro e w3 ⟨rfl, hP6, hk6⟩
        go_wp2_with fail
        refine (hp.call _ ⟨#[45, 45, 62]⟩ _ hP6 (by rw [List.length_append, List.length_append]; show A1.length + 4 + x.text.size + 3 ≤ _; omega)).mono ?_
        rintro e w4 ⟨rfl, hP7, hk7⟩
        have hP8 := Lib.hid (fin2.out _ hP7)
        clear hP7
        go_wp2_with fail
        go_roundw
        case rel => exact ⟨i + 1, by omega, by go_num, by rw [hA2.out]; exact hP8.out, ((hk4.out.trans hk5).trans hk6).trans hk7⟩
        case measure => exact wr_meas hlt
      · have k3b : (x.kind == 3) = false := by simpa using k3
        have hP5 := Lib.hid (fin.out _ (by rw [M4.oneB_4 k1 k2 k3, List.append_nil]; exact hP4))
        replace k1 := Lib.hid k1
        replace k2 := Lib.hid k2
        replace k3 := Lib.hid k3
        clear fin hrb
        go_wp2_with fail
        go_roundw
        case rel => exact ⟨i + 1, by omega, by go_num, by rw [hA2.out]; exact hP5.out, hk4.out⟩
        case measure => exact wr_meas hlt
    · obtain rfl : i = l.length := by omega
      rw [List.take_length] at hP3
      replace hP3 := Lib.hid hP3
      go_wp2_with fail
      go_end0
      exact ⟨rfl, hP3.out, hk3⟩
end Go.Proofs.YteefodibpjgicaaGreat

namespace Go.Proofs.YteefodibpjgicaaGreat
open Go.RowKit Go.Shelf
def PB (b : Nat) (acc : List UInt8) (w : World) : Prop := Lib.IsBuilderF 120 5 b b (u8s acc) w ∧ b ≤ w.heap.size
theorem isBuilderF_below {T e : TypeId} {B b : Nat} {bs : List Value} {w w' : World} (h : Lib.IsBuilderF T e B b bs w) (hb : Below w.heap.size w w') : Lib.IsBuilderF T e B b bs w' := by
  have key : ∀ p, Lib.BuilderAtF T e B b p bs w → Lib.BuilderAtF T e B b p bs w' := by
    rintro p ⟨h1, v, h2, h3, h4⟩
    refine ⟨h1, v, (hb.block b (Array.getElem?_eq_some_iff.1 h2).1).trans h2, ⟨h3.1, ?_⟩, h4⟩
    rcases h3.2 with h5 | ⟨g, cap, cur, fz, hv, hg1, hg2, hg3⟩
    · exact .inl h5
    · exact .inr ⟨g, cap, cur, fz, hv, hg1, (hb.block g (Array.getElem?_eq_some_iff.1 hg2).1).trans hg2, hg3⟩
  exact h.elim (fun x => .inl (key _ x)) (fun x => .inr (key _ x))
theorem kn_of_others {b : Nat} {w w' : World} (h : Below b w w') (k : Lib.OthersKept 5 (some b) w w') (hb : ∃ c fr, w.heap[b]? = some (.cells c 120 fr)) : Kw b w w' := by
  refine ⟨h, fun i c t fr hi ht => k i _ hi ?_ ?_⟩
  · intro e
    obtain ⟨c', fr', h'⟩ := hb
    cases e
    rw [h'] at hi
    cases hi
    rcases ht with h | h | h <;> exact absurd h (by decide)
  · intro c' fz e
    cases e
    rcases ht with h | h | h <;> exact absurd h (by decide)
set_option maxHeartbeats 2000000 in
set_option maxRecDepth 100000 in
theorem putsB (b : Nat) : Puts b 105 b (PB b) where
  enter := enters_of Tryz.func105 (by kernel_rfl) rfl
  base := fun acc w h => h.2
  stab := fun acc w w' h hb => ⟨isBuilderF_below h.1 hb, Nat.le_trans h.2 hb.size⟩
  call := by
    intro acc s w h hl
    have hw := Lib.hid (bWriteString b b (u8s acc) s w h.1 (by rw [u8s_length]; omega) h.2)
    have hblk : ∃ c fr, w.heap[b]? = some (.cells c 120 fr) := by
      rcases h.1 with ⟨_, v, hv, _⟩ | ⟨_, v, hv, _⟩ <;> exact ⟨_, _, hv⟩
    have hb := h.2
    replace hblk := Lib.hid hblk
    clear h
    go_enter Tryz.func105, Tryz.ntmps105
    go_wp2_with fail
    refine hw.out.mono ?_
    rintro e w1 ⟨rfl, h1, h2, h3⟩
    have hP : PB b (acc ++ s.data.toList) w1 := ⟨.inr (by rw [u8s_append]; exact h1), Nat.le_trans hb h2.size⟩
    have hK := kn_of_others h2 h3 hblk.out
    replace hP := Lib.hid hP
    go_wp2_with fail
    go_end0
    exact ⟨rfl, hP.out, hK⟩
def TextPost (out : List UInt8) (w : World) (e : Ending) (w' : World) : Prop := e = .returned (.string ⟨out.toArray⟩) ∧ Below w.heap.size w w'
set_option maxHeartbeats 2000000 in
set_option maxRecDepth 100000 in
theorem writeJoined (G h : Nat) (out : List UInt8) (w : World) (hE : ∀ (args : Array Value) (w : World), (callFunc G args).run Tryz.prog w = .ok (.enter G args) w)
    (hG : ∀ w1, Below w.heap.size w w1 → PB w.heap.size [] w1 → Calls Tryz.prog G #[.func (.func 105) #[] #[.pointer (some ⟨w.heap.size, 0, none⟩)], .pointer (some ⟨h, 0, none⟩)] w1 (PutPost w.heap.size (PB w.heap.size) out w1)) :
    Calls Tryz.prog 96 #[.func (.func G) #[] #[.pointer (some ⟨h, 0, none⟩)]] w (TextPost out w) := by
  have b0 : Below w.heap.size w (w.alloc (.cells #[.pointer none, .slice none 0 0] 120)) := (Below.refl _ w).alloc (Nat.le_refl _) _
  have h0 : PB w.heap.size [] (w.alloc (.cells #[.pointer none, .slice none 0 0] 120)) := ⟨Lib.IsBuilderF.of (Lib.fresh_isBuilder 120 5 w), by simp⟩
  have hG1 := Lib.hid (hG _ b0 h0)
  replace b0 := Lib.hid b0
  clear hG h0
  go_enter Tryz.func96, Tryz.ntmps96
  go_wp2_with fail
  refine hG1.out.mono ?_
  rintro e w1 ⟨rfl, hP1, hk1⟩
  clear hG1
  go_wp2_with fail
  refine (bString w.heap.size w.heap.size _ _ hP1.1 hP1.2).mono ?_
  rintro e w2 ⟨rfl, _, b1, _⟩
  go_wp2_with fail
  go_ret
  exact ⟨rfl, (b0.out.trans hk1.low).trans b1⟩
set_option maxHeartbeats 2000000 in
set_option maxRecDepth 100000 in
theorem writeText1 {B F g : Nat} {P : List UInt8 → World → Prop} (hp : Puts B F g P) (w0 : World) (S : Nat → Prop) (hS : ∀ b, S b → b < B) (h : Nat) (v : Value) (l : List Nd) (acc : List UInt8) (w : World) (hc : w.cell? ⟨h, 0, none⟩ = some v) (hf : FitN l) (hr : RepN S w0 v l) (hw : Below B w0 w) (hP : P acc w) (hl : acc.length + (M4.textB false l).length ≤ 70368744177664) :
    Calls Tryz.prog 97 #[.func (.func F) #[] #[.pointer (some ⟨g, 0, none⟩)], .pointer (some ⟨h, 0, none⟩)] w (PutPost B P (acc ++ M4.textB false l) w) := by
  have hN := Lib.hid (writeNodes hp w0 S hS (M3.weight l + 1) _ l false acc w (by omega) hf hr hw hP hl)
  obtain ⟨a, cap, rfl⟩ := hr.slice
  clear hP hw
  go_enter Tryz.func97, Tryz.ntmps97
  go_wp2_with fail
  refine hN.out.mono ?_
  rintro e w2 ⟨rfl, hP2, hk2⟩
  replace hP2 := Lib.hid hP2
  go_wp2_with fail
  go_end0
  exact ⟨rfl, hP2.out, hk2⟩
set_option maxHeartbeats 2000000 in
set_option maxRecDepth 100000 in
theorem writeTextOf (S : Nat → Prop) (v : Value) (l : List Nd) (w : World) (hS : ∀ b, S b → b < w.heap.size) (hr : RepN S w v l) (hf : FitN l) (hl : (M4.textB false l).length ≤ 70368744177664) :
    Calls Tryz.prog 78 #[v] w (TextPost (M4.textB false l) w) := by
  obtain ⟨a, cap, rfl⟩ := hr.slice
  have b0 : Below w.heap.size w (w.alloc (.cells #[.slice a l.length cap] 25)) := (Below.refl _ w).alloc (Nat.le_refl _) _
  have hJ := Lib.hid (writeJoined 97 w.heap.size (M4.textB false l) (w.alloc (.cells #[.slice a l.length cap] 25)) (enters_of Tryz.func97 (by kernel_rfl) rfl) (fun w1 hb1 hP1 =>
    writeText1 (putsB _) (w.alloc (.cells #[.slice a l.length cap] 25)) S (fun b h => by have := hS b h; simp; omega) w.heap.size _ l [] w1 ((hb1.cell (p := ⟨w.heap.size, 0, none⟩) (by simp)).trans ((Box.new w 25 [.slice a l.length cap]).cell (i := 0) rfl)) hf (hr.keep (fun b h => b0.block b (hS b h))) hb1 hP1 (by simpa using hl)))
  replace b0 := Lib.hid b0
  go_enter Tryz.func78, Tryz.ntmps78
  go_wp2_with fail
  refine hJ.out.mono ?_
  rintro e w2 ⟨rfl, hb2⟩
  go_wp2_with fail
  go_ret
  exact ⟨rfl, b0.out.trans (hb2.mono (by simp))⟩
end Go.Proofs.YteefodibpjgicaaGreat

namespace Go.Proofs.YteefodibpjgicaaGreat
open Go.RowKit
theorem TokR.ofT {w : World} {B : Nat} {v : Value} {l : List Tok} (h : Toks w B v l) : TokR (fun b => B ≤ b ∧ b < w.heap.size) w v l := by
  obtain ⟨xs, h1, h2⟩ := h.rows
  exact ⟨xs, h1, h2⟩
set_option maxHeartbeats 2000000 in
set_option maxRecDepth 100000 in
theorem parTreeNext (S : Nat → Prop) (v : Value) (l : List Nd) (w : World) (hS : ∀ b, S b → b < w.heap.size) (hr : RepN S w v l) (hf : FitN l) (hl : (M4.textB false l).length ≤ 70368744177664) :
    Calls Tryz.prog 55 #[v] w fun e w' => e = .returned (.iface 47 (.string ⟨(M4.textB false l).toArray⟩)) ∧ Below w.heap.size w w' := by
  have hT := Lib.hid (writeTextOf S v l w hS hr hf hl)
  obtain ⟨a, cap, rfl⟩ := hr.slice
  go_enter Tryz.func55, Tryz.ntmps55
  go_wp2_with fail
  refine hT.out.mono ?_
  rintro e w1 ⟨rfl, hb⟩
  go_wp2_with fail
  go_ret
  exact ⟨rfl, hb⟩
set_option maxHeartbeats 2000000 in
set_option maxRecDepth 100000 in
theorem parSourceNext (v : Value) (l : List UInt8) (w : World) (hs : Sl w v (u8s l)) (hl : l.length ≤ 1073741824) :
    Calls Tryz.prog 150 #[v] w fun e w' => e = .returned (.iface 47 (.string (M5.bs (M1.right l)))) ∧ Below w.heap.size w w' := by
  have hT := Lib.hid (utfRight v l w hs hl)
  obtain ⟨a, cap, rfl, -, -⟩ := hs.len8
  clear hs
  go_enter Tryz.func150, Tryz.ntmps150
  go_wp2_with fail
  refine hT.out.mono ?_
  rintro e w1 ⟨rfl, hb⟩
  go_wp2_with fail
  go_ret
  exact ⟨rfl, hb⟩
set_option maxHeartbeats 2000000 in
set_option maxRecDepth 100000 in
theorem parRightNext (s : ByteArray) (w : World) (hg : Glo w) (hs : s.size ≤ 1073741824) :
    Calls Tryz.prog 155 #[.string s] w fun e w' => ∃ v, e = .returned (.iface 161 v) ∧ Toks w' w.heap.size v (M5.tokens s.data.toList) ∧ Below w.heap.size w w' := by
  have hT := Lib.hid (tokTokens s w hg hs)
  go_enter Tryz.func155, Tryz.ntmps155
  go_wp2_with fail
  refine hT.out.mono ?_
  rintro e w1 ⟨v, rfl, hl, hb⟩
  obtain ⟨a, cap, rfl⟩ := hl.slice
  go_wp2_with fail
  go_ret
  exact ⟨_, rfl, hl, hb⟩
set_option maxHeartbeats 2000000 in
set_option maxRecDepth 100000 in
theorem parTokensNext (S : Nat → Prop) (v : Value) (l : List Tok) (w : World) (hS : ∀ b, S b → b < w.heap.size) (hr : TokR S w v l) (hf : FitL l) :
    Calls Tryz.prog 202 #[v] w fun e w' => ∃ v', e = .returned (.iface 44 v') ∧ Fresh w' w.heap.size v' (M7.tree l) ∧ Below w.heap.size w w' := by
  have hT := Lib.hid (bTree S v l w hS hr hf)
  obtain ⟨a, cap, rfl⟩ := hr.slice
  go_enter Tryz.func202, Tryz.ntmps202
  go_wp2_with fail
  refine hT.out.mono ?_
  rintro e w1 ⟨v', rfl, hl, hb⟩
  obtain ⟨a, cap, rfl⟩ := hl.rep.slice
  go_wp2_with fail
  go_ret
  exact ⟨_, rfl, hl, hb⟩
theorem as_source (v : Value) (w : World) : (Instr.typeAssert (.iface 46 v) 57 44 true).run Tryz.prog w = .ok (.tuple #[.slice none 0 0, .bool false]) w := by kernel_rfl
theorem as_right (v : Value) (w : World) : (Instr.typeAssert (.iface 47 v) 57 44 true).run Tryz.prog w = .ok (.tuple #[.slice none 0 0, .bool false]) w := by kernel_rfl
theorem as_tokens (v : Value) (w : World) : (Instr.typeAssert (.iface 161 v) 57 44 true).run Tryz.prog w = .ok (.tuple #[.slice none 0 0, .bool false]) w := by kernel_rfl
theorem as_tree (v : Value) (w : World) : (Instr.typeAssert (.iface 44 v) 57 44 true).run Tryz.prog w = .ok (.tuple #[v, .bool true]) w := by kernel_rfl
theorem as_text (v : Value) (w : World) : (Instr.typeAssert (.iface 47 v) 57 47 false).run Tryz.prog w = .ok v w := by kernel_rfl
theorem in_source (n : Nat) (v : Value) (w : World) : (method (n + 1) 46 v "strainer/parse.next").run Tryz.prog w = .ok (150, v) w := by kernel_rfl
theorem in_right (n : Nat) (v : Value) (w : World) : (method (n + 1) 47 v "strainer/parse.next").run Tryz.prog w = .ok (155, v) w := by kernel_rfl
theorem in_tokens (n : Nat) (v : Value) (w : World) : (method (n + 1) 161 v "strainer/parse.next").run Tryz.prog w = .ok (202, v) w := by kernel_rfl
def St8 (S : Nat → Prop) (w0 wr : World) (L : List Nd) (u : Value) (k : Nat) : Prop :=
  (k = 3 ∧ ∃ v l, u = .iface 46 v ∧ Sl wr v (u8s l) ∧ l.length ≤ 20000 ∧ M7.tree (M5.tokens (M1.right l)) = L) ∨
  (k = 2 ∧ ∃ s : ByteArray, u = .iface 47 (.string s) ∧ s.size ≤ 1073741824 ∧ FitL (M5.tokens s.data.toList) ∧ M7.tree (M5.tokens s.data.toList) = L) ∨
  (k = 1 ∧ ∃ v T, u = .iface 161 v ∧ (∃ B, Toks wr B v T) ∧ FitL T ∧ M7.tree T = L) ∨
  (k = 0 ∧ ∃ v, u = .iface 44 v ∧ RepN (fun b => S b ∨ (w0.heap.size ≤ b ∧ b < wr.heap.size)) wr v L)
set_option maxHeartbeats 4000000 in
set_option maxRecDepth 100000 in
theorem parParsed (S : Nat → Prop) (u : Value) (k : Nat) (L : List Nd) (w : World) (hg : Glo w) (hS : ∀ b, S b → b < w.heap.size) (hu : St8 S w w L u k) :
    Calls Tryz.prog 29 #[u] w (ShrP S L w) := by
  obtain ⟨wo, rfl⟩ : ∃ wo : World, wo = w := ⟨_, rfl⟩
  go_enter Tryz.func29, Tryz.ntmps29
  go_wp2_with fail
  go_loopw [0] (fun u0 wr => ∃ k, St8 S wo wr L u0 k ∧ Below wo.heap.size wo wr) (fun u0 _ => match u0 with | .iface t _ => if t = 46 then 3 else if t = 47 then 2 else if t = 161 then 1 else 0 | _ => 0)
  case atStart => exact ⟨k, hu, Below.refl _ _⟩
  case round =>
    obtain ⟨k, hk, hb⟩ := hrel
    have hz := hb.size
    rcases hk with ⟨-, v, l, rfl, hs, hl, hL⟩ | ⟨-, s, rfl, hs, hfit0, hL⟩ | ⟨-, v, T, rfl, hT, hf, hL⟩ | ⟨-, v, rfl, hr⟩
    · have a1 := as_source v
      have i1 := fun n => in_source n v
      have hC := Lib.hid (parSourceNext v l wr hs (by omega))
      clear hs
      go_wp2_with fail
      refine hC.out.mono ?_
      rintro e w1 ⟨rfl, hb1⟩
      go_wp2_with fail
      go_roundw
      case rel => exact ⟨2, .inr (.inl ⟨rfl, _, rfl, by rw [bs_size]; have := M1.right_len l; omega, by rw [M5.bs_data]; exact (M5.toks_fit _ (by have := M1.right_len l; omega)).1, by rw [M5.bs_data]; exact hL⟩), bt hb hb1⟩
      case measure => exact Nat.lt_of_sub_pos Nat.one_pos
    · have a1 := fun x => as_right x
      have i1 := fun n => in_right n (.string s)
      have hC := Lib.hid (parRightNext s wr (hg.below hb (Nat.le_refl _)) (by omega))
      have hfit := Lib.hid hfit0
      clear hfit0
      go_wp2_with fail
      refine hC.out.mono ?_
      rintro e w1 ⟨v, rfl, hT, hb1⟩
      obtain ⟨a, cap, rfl⟩ := hT.slice
      go_wp2_with fail
      go_roundw
      case rel => exact ⟨1, .inr (.inr (.inl ⟨rfl, _, _, rfl, ⟨_, hT⟩, hfit.out, hL⟩)), bt hb hb1⟩
      case measure => exact Nat.lt_of_sub_pos Nat.one_pos
    · obtain ⟨B, hT⟩ := hT
      have hTR := TokR.ofT hT
      obtain ⟨a, cap, rfl⟩ := hT.slice
      have a1 := fun x => as_tokens x
      have i1 := fun n => in_tokens n (.slice a T.length cap)
      have hC := Lib.hid (parTokensNext _ _ T wr (fun b h => h.2) hTR hf)
      clear hT hTR
      go_wp2_with fail
      refine hC.out.mono ?_
      rintro e w1 ⟨v, rfl, hF, hb1⟩
      have hR := hF.rep
      obtain ⟨a, cap, rfl⟩ := hR.slice
      clear hF
      go_wp2_with fail
      go_roundw
      case rel => exact ⟨0, .inr (.inr (.inr ⟨rfl, _, rfl, by rw [← hL]; exact hR.mono fun b h => .inr ⟨by omega, h.2⟩⟩)), bt hb hb1⟩
      case measure => exact Nat.lt_of_sub_pos Nat.one_pos
    · have a1 := as_tree v
      have hres : ShrP S L wo (.returned v) wr := ⟨v, rfl, hr, hb⟩
      clear hr
      go_wp2_with fail
      go_ret
      exact hres
set_option maxHeartbeats 2000000 in
set_option maxRecDepth 100000 in
theorem parBytes (v : Value) (l : List UInt8) (w : World) (hg : Glo w) (hs : Sl w v (u8s l)) (hl : l.length ≤ 20000) :
    Calls Tryz.prog 11 #[v] w (ShrP (fun _ => False) (M7.tree (M5.tokens (M1.right l))) w) := by
  have hP := Lib.hid (parParsed (fun _ => False) (.iface 46 v) 3 _ w hg (fun _ h => h.elim) (.inl ⟨rfl, v, l, rfl, hs, hl, rfl⟩))
  obtain ⟨a, cap, rfl, -, -⟩ := hs.len8
  clear hs
  go_enter Tryz.func11, Tryz.ntmps11
  go_wp2_with fail
  refine hP.out.mono ?_
  rintro e w1 ⟨v1, rfl, hr, hb⟩
  have hres : ShrP (fun _ => False) (M7.tree (M5.tokens (M1.right l))) w (.returned v1) w1 := ⟨v1, rfl, hr, hb⟩
  obtain ⟨a1, c1, rfl⟩ := hr.slice
  clear hr
  go_wp2_with fail
  go_ret
  exact hres
set_option maxHeartbeats 2000000 in
set_option maxRecDepth 100000 in
theorem parText (s : ByteArray) (w : World) (hg : Glo w) (hs : s.size ≤ 1073741824) (hf : FitL (M5.tokens s.data.toList)) :
    Calls Tryz.prog 13 #[.string s] w (ShrP (fun _ => False) (M7.tree (M5.tokens s.data.toList)) w) := by
  have hP := Lib.hid (parParsed (fun _ => False) (.iface 47 (.string s)) 2 _ w hg (fun _ h => h.elim) (.inr (.inl ⟨rfl, s, rfl, hs, hf, rfl⟩)))
  go_enter Tryz.func13, Tryz.ntmps13
  go_wp2_with fail
  refine hP.out.mono ?_
  rintro e w1 ⟨v1, rfl, hr, hb⟩
  have hres : ShrP (fun _ => False) (M7.tree (M5.tokens s.data.toList)) w (.returned v1) w1 := ⟨v1, rfl, hr, hb⟩
  obtain ⟨a1, c1, rfl⟩ := hr.slice
  clear hr
  go_wp2_with fail
  go_ret
  exact hres
def TxtW (out : List UInt8) (w : World) (e : Ending) (w' : World) : Prop := e = .returned (.string ⟨out.toArray⟩) ∧ Below w.heap.size w w'
set_option maxHeartbeats 2000000 in
set_option maxRecDepth 100000 in
theorem parWritten (S : Nat → Prop) (u : Value) (k : Nat) (L : List Nd) (w : World) (hg : Glo w) (hS : ∀ b, S b → b < w.heap.size) (hu : St8 S w w L u k) (hf : FitN L) (hl : (M4.textB false L).length ≤ 70368744177664) :
    Calls Tryz.prog 37 #[u] w (TxtW (M4.textB false L) w) := by
  have hP := Lib.hid (parParsed S u k L w hg hS hu)
  have a1 := fun x => as_text x
  clear hu
  obtain ⟨wo, rfl⟩ : ∃ wo : World, wo = w := ⟨_, rfl⟩
  go_enter Tryz.func37, Tryz.ntmps37
  go_wp2_with fail
  refine hP.out.mono ?_
  rintro e w1 ⟨v1, rfl, hr, hb⟩
  have hz := hb.size
  have hN := Lib.hid (parTreeNext _ v1 L w1 (fun b h => by
    rcases h with h | h
    · have := hS b h; omega
    · exact h.2) hr hf hl)
  obtain ⟨a1', c1, rfl⟩ := hr.slice
  clear hr
  go_wp2_with fail
  refine hN.out.mono ?_
  rintro e w2 ⟨rfl, hb2⟩
  have hb02 := bt hb hb2
  go_wp2_with fail
  go_ret
  exact ⟨rfl, hb02⟩
def again (l : List Nd) : List Nd := if M3.mayE false l = 0 then M7.tree (M5.tokens (M4.textB false l)) else []
set_option maxHeartbeats 4000000 in
set_option maxRecDepth 100000 in
theorem parAgain (S : Nat → Prop) (v : Value) (l : List Nd) (w : World) (hg : Glo w) (hS : ∀ b, S b → b < w.heap.size) (hr : RepN S w v l) (hf : FitN l) (hl : (M4.textB false l).length ≤ 1073741824) (hft : FitL (M5.tokens (M4.textB false l))) :
    Calls Tryz.prog 20 #[v] w (ShrP (fun _ => False) (again l) w) := by
  have hM := Lib.hid (domMay S v l w hS hr hf)
  obtain ⟨wo, rfl⟩ : ∃ wo : World, wo = w := ⟨_, rfl⟩
  have hW := Lib.hid (fun W (hb : Below wo.heap.size wo W) => parWritten S (.iface 44 v) 0 l W (hg.below hb (Nat.le_refl _)) (fun b h => by have := hS b h; have := hb.size; omega) (.inr (.inr (.inr ⟨rfl, v, rfl, (hr.below hS hb).mono fun b h => .inl h⟩))) hf (by omega))
  have hP := Lib.hid (fun W (hb : Below wo.heap.size wo W) => parParsed (fun _ => False) (.iface 47 (.string (M5.bs (M4.textB false l)))) 2 (M7.tree (M5.tokens (M4.textB false l))) W (hg.below hb (Nat.le_refl _)) (fun _ h => h.elim) (.inr (.inl ⟨rfl, _, rfl, by rw [bs_size]; exact hl, by rw [M5.bs_data]; exact hft, by rw [M5.bs_data]⟩)))
  obtain ⟨a, cap, rfl⟩ := hr.slice
  clear hr hl
  by_cases hm : M3.mayE false l = 0
  · rw [show again l = M7.tree (M5.tokens (M4.textB false l)) from if_pos hm]
    rw [hm] at hM
    go_enter Tryz.func20, Tryz.ntmps20
    go_wp2_with fail
    refine hM.out.mono ?_
    rintro e w1 ⟨rfl, hb⟩
    have hW1 := Lib.hid (hW.out _ hb)
    clear hW
    go_wp2_with fail
    refine hW1.out.mono ?_
    rintro e w2 ⟨rfl, hb2⟩
    have hb02 := bt hb hb2
    have hP1 := Lib.hid (hP.out _ hb02)
    clear hP
    go_wp2_with fail
    refine hP1.out.mono ?_
    rintro e w3 ⟨v3, rfl, hr3, hb3⟩
    have hz2 := hb02.size
    have hres : Hid (ShrP (fun _ => False) (M7.tree (M5.tokens (M4.textB false l))) wo (.returned v3) w3) := ⟨v3, rfl, hr3.mono fun b h => h.elim (fun h => h.elim) (fun h => .inr ⟨by omega, h.2⟩), bt hb02 hb3⟩
    obtain ⟨a3, c3, rfl⟩ := hr3.slice
    clear hr3
    go_wp2_with fail
    go_ret
    exact hres.out
  · rw [show again l = [] from if_neg hm]
    go_enter Tryz.func20, Tryz.ntmps20
    go_wp2_with fail
    refine hM.out.mono ?_
    rintro e w1 ⟨rfl, hb⟩
    have h0 : decide (M3.mayE false l ≠ 0) = true := decide_eq_true hm
    clear hW hP
    go_wp2_with fail
    go_ret
    exact ⟨_, rfl, RepN.nil _ _, hb⟩
end Go.Proofs.YteefodibpjgicaaGreat
