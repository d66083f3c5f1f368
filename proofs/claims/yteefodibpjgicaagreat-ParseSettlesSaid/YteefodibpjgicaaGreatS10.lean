/- Texts joined: Ref05i, Ref05j, Law05, Wr2, Wr3, Par1. -/
import Derived.Test.YteefodibpjgicaaGreatRows
import Derived.StillTailTactics
import Derived.Shelf.Abstract
import Derived.Test.YteefodibpjgicaaGreatS1
import Derived.Test.YteefodibpjgicaaGreatS2
import Derived.Test.YteefodibpjgicaaGreatS3
import Derived.Test.YteefodibpjgicaaGreatS4
import Derived.Test.YteefodibpjgicaaGreatS5
import Derived.Test.YteefodibpjgicaaGreatS6
import Derived.Test.YteefodibpjgicaaGreatS7
import Derived.Test.YteefodibpjgicaaGreatS8
import Derived.Test.YteefodibpjgicaaGreatS9
namespace Go.Proofs.YteefodibpjgicaaGreat
open Go.RowKit
theorem refPost_nil {k : Int} {nm tx : ByteArray} {n : Nat} {z : Int} {w w' : World} (hz : z = (n : Int)) (hb : Below w.heap.size w w') :
    TokPost ⟨k, nm, [], tx⟩ n w (.returned (.tuple #[.agg #[.int .i64 k, .string nm, .slice none 0 0, .string tx], .int .i64 z])) w' := by
  subst hz
  exact ⟨.slice none 0 0, rfl, World.ownsRow_nil _ w.heap.size _ _, hb⟩
theorem refPost_nil' {P : Tok × List UInt8} {k : Int} {nm tx : ByteArray} {L : Nat} {r : List UInt8} {z : Int} {w w' : World} (hP : P = (⟨k, nm, [], tx⟩, r)) (hz : z = ((L - r.length : Nat) : Int)) (hb : Below w.heap.size w w') :
    TokPost P.1 (L - P.2.length) w (.returned (.tuple #[.agg #[.int .i64 k, .string nm, .slice none 0 0, .string tx], .int .i64 z])) w' := by
  subst hP
  exact refPost_nil hz hb
theorem cutE (s : ByteArray) (l : List UInt8) (k : Nat) (hk : l.length = k) (b : Bool) (h : l.isPrefixOf s.data.toList = b) : ((s.extract 0 k).toList == l) = b := by
  have := cut4 s k ⟨l.toArray⟩ (by show l.toArray.size = k; simpa using hk)
  rw [Lib.toList_data (⟨l.toArray⟩ : ByteArray)] at this
  rw [← h]
  simpa using this
theorem pre_len {l m : List UInt8} (h : l.isPrefixOf m = true) : l.length ≤ m.length := (List.isPrefixOf_iff_prefix.1 h).length_le
set_option maxHeartbeats 8000000 in
set_option maxRecDepth 100000 in
theorem ref05Tag (s : ByteArray) (w : World) (hs : s.size ≤ 1073741824) : Calls Tryz.prog 68 #[.string s] w (TokPost (M5.tagR s.data.toList).1 (s.size - (M5.tagR s.data.toList).2.length) w) := by
  by_cases heasy : M5.startsB s.data.toList = true → ∀ h2 : 1 < s.size, M5.letterB s[1] = true
  · exact ref05Tag_easy s w hs heasy
  have hst := Lib.hid (fun w => ref05Starts s w hs)
  have hsB : M5.startsB s.data.toList = true := by
    cases h : M5.startsB s.data.toList
    · exact absurd (fun e => by rw [h] at e; cases e) heasy
    · rfl
  obtain ⟨h2, hl⟩ := two_signs hsB
  have hlt : M5.letterB s[1] = false := by
    cases h : M5.letterB s[1]
    · rfl
    · exact absurd (fun _ _ => h) heasy
  clear heasy
  have hle := Lib.hid (fun w => ref05letter s[1] w)
  have hc := tag_else s[0] s[1] (s.data.toList.drop 2) (by rw [← hl]; exact hsB) hlt
  rw [← hl] at hc
  have hsl : s.data.toList.length = s.size := rfl
  obtain ⟨wo, rfl⟩ : ∃ wo : World, wo = w := ⟨_, rfl⟩
  have bx0 := Box.new wo 87 [.int .i64 0, .string ⟨#[]⟩, .slice none 0 0, .string ⟨#[]⟩]
  have hb0 := Lib.hid ((Below.refl _ wo).alloc (Nat.le_refl _) (.cells #[.int .i64 0, .string ⟨#[]⟩, .slice none 0 0, .string ⟨#[]⟩] 87))
  cases hp4 : [60, 33, 45, 45].isPrefixOf s.data.toList
  · rw [hp4, if_neg Bool.false_ne_true] at hc
    have h4e := cutE s [60, 33, 45, 45] 4 rfl false hp4
    cases hp3 : [60, 47, 62].isPrefixOf s.data.toList
    · rw [hp3, if_neg Bool.false_ne_true] at hc
      have h3e := cutE s [60, 47, 62] 3 rfl false hp3
      have e47 : ((s[1].toNat : Int) == 47) = (s[1] == 47) := (eqI _ 47).symm
      by_cases hA : s[1] = 47 ∧ ((s.data.toList.drop 2).head?.map M5.letterB) = some true
      · have h2s : 2 < s.size := by
          rcases Nat.lt_or_ge 2 s.size with h | h
          · exact h
          · have := hA.2
            rw [drop_end s 2 h] at this
            cases this
        have hl2 : M5.letterB s[2] = true := by
          have := hA.2
          rw [drop_cons s 2 h2s] at this
          exact Option.some.inj this
        have hle2 : Hid (∀ w, Calls Tryz.prog 84 #[.int .u8 (s[2].toNat : Int)] w (BoolPost true w)) := Lib.hid (fun w => by rw [← hl2]; exact ref05letter s[2] w)
        rw [if_pos hA] at hc
        have hx47 : ((s[1].toNat : Int) == 47) = true := by rw [e47]; exact beq_iff_eq.2 hA.1
        have hdl : (s.data.toList.drop 2).length = s.size - 2 := by rw [List.length_drop]; rfl
        have hFd := Lib.hid (fun w => ref05find s ⟨#[62]⟩ 2 w hs (by decide) (by decide) (by omega))
        have hNm := Lib.hid (fun w => ref05name s 2 w hs (by omega))
        have hfl := M5.findL_le [62] (s.data.toList.drop 2)
        rw [hdl] at hfl hc
        obtain ⟨nm, hnm⟩ : ∃ x, Hid (x = M5.bs (M1.fold ((s.data.toList.drop 2).takeWhile M5.nameB))) := ⟨_, rfl⟩
        rw [← hnm.out, List.drop_drop] at hc
        have hNm2 : Hid (∀ w, Calls Tryz.prog 89 #[.string s, .int .i64 2] w (fun e w' => ∃ K : Int, e = .returned (.tuple #[.string nm, .int .i64 K]) ∧ Below w.heap.size w w')) := Lib.hid (fun w => (hNm.out w).mono (by
          rintro e w' ⟨rfl, hb⟩
          exact ⟨((2 + M5.spanN M5.nameB (s.data.toList.drop 2) : Nat) : Int), by rw [hnm.out]; rfl, hb⟩))
        have hFd2 : Hid (∀ w, Calls Tryz.prog 88 #[.string s, .int .i64 2, .string ⟨#[62]⟩] w (PosPost (2 + M5.findL [62] (s.data.toList.drop 2)) w)) := hFd
        clear hFd hNm
        generalize M5.findL [62] (s.data.toList.drop 2) = F at *
        have hdl2 : (s.data.toList.drop (2 + (F + 1))).length = s.size - (2 + (F + 1)) := by rw [List.length_drop]; rfl
        replace hdl := Lib.hid hdl
        replace hA := Lib.hid hA
        clear e47
        by_cases hF : F < s.size - 2
        · rw [if_pos hF] at hc
          have hfin := fun (w' : World) (hb : Below wo.heap.size wo w') => refPost_nil' (L := s.size) (z := (2 : Int) + (F : Int) + 1) (w := wo) (w' := w') hc (by rw [hdl2]; omega) hb
          generalize TokPost (M5.tagR s.data.toList).1 (s.size - (M5.tagR s.data.toList).2.length) wo = Post at *
          replace hl := Lib.hid hl
          replace hc := Lib.hid hc
          replace hdl2 := Lib.hid hdl2
          replace hfin := Lib.hid hfin
          have hge : decide ((s.size : Int) ≤ (2 : Int) + (F : Int)) = false := decide_eq_false (by omega)
          rcases Nat.lt_or_ge s.size 4 with h4s | h4s
          all_goals
            go_enter Tryz.func68, Tryz.ntmps68
            go_wp2_with fail
            refine (hst.out _).mono ?_
            rintro e1 w2 ⟨rfl, rfl⟩
            rw [hsB]
            go_wp2_with fail
            refine (hle.out _).mono ?_
            rintro e1 w2 ⟨rfl, rfl⟩
            rw [hlt]
            go_wp2_with fail
            refine (hle2.out _).mono ?_
            rintro e1 w2 ⟨rfl, rfl⟩
            go_wp2_with fail
            refine (hFd2.out _).mono ?_
            rintro e1 w2 ⟨rfl, rfl⟩
            go_wp2_with fail
            refine (hNm2.out _).mono ?_
            rintro e1 w2 ⟨K, rfl, hb2⟩
            have bx2 := bx0.below hb2 bx0.lt
            have z0 := bx2.cell (i := 0) rfl
            have z1 := bx2.cell (i := 1) rfl
            have z2 := bx2.cell (i := 2) rfl
            have z3 := bx2.cell (i := 3) rfl
            have fz := bx2.free
            have bf := Lib.hid (bx2.four (.int .i64 2) (.string nm) (.slice none 0 0) (.string ⟨#[]⟩))
            have hbW := Lib.hid (bt hb0.out hb2)
            clear hb2
            go_wp2_with fail
            have q0 := bf.out.cell (i := 0) rfl
            have q1 := bf.out.cell (i := 1) rfl
            have q2 := bf.out.cell (i := 2) rfl
            have q3 := bf.out.cell (i := 3) rfl
            exact bodyPost_ret (v := .tuple #[.agg #[.int .i64 2, .string nm, .slice none 0 0, .string ⟨#[]⟩], .int .i64 ((2 : Int) + (F : Int) + 1)]) (by simp [results, Tryz.results68, go_sem, q0, q1, q2, q3]) rfl (hfin.out _ (four_below hbW.out _ _ _ _ (Nat.le_refl _)))
        · rw [if_neg hF] at hc
          have hz : Hid (TokPost (M5.tagR s.data.toList).1 (s.size - (M5.tagR s.data.toList).2.length) wo (.returned (.tuple #[.agg #[.int .i64 0, .string ⟨#[]⟩, .slice none 0 0, .string ⟨#[]⟩], .int .i64 (s.size : Int)])) (wo.alloc (.cells #[.int .i64 0, .string ⟨#[]⟩, .slice none 0 0, .string ⟨#[]⟩] 87))) :=
            Lib.hid (refPost_nil' hc (by show _ = ((s.size - 0 : Nat) : Int); omega) hb0.out)
          have z0 := bx0.cell (i := 0) rfl
          have z1 := bx0.cell (i := 1) rfl
          have z2 := bx0.cell (i := 2) rfl
          have z3 := bx0.cell (i := 3) rfl
          have fz := bx0.free
          generalize TokPost (M5.tagR s.data.toList).1 (s.size - (M5.tagR s.data.toList).2.length) wo = Post at *
          replace hl := Lib.hid hl
          replace hc := Lib.hid hc
          have hge : decide ((s.size : Int) ≤ (2 : Int) + (F : Int)) = true := decide_eq_true (by omega)
          rcases Nat.lt_or_ge s.size 4 with h4s | h4s
          all_goals
            go_enter Tryz.func68, Tryz.ntmps68
            go_wp2_with fail
            refine (hst.out _).mono ?_
            rintro e1 w2 ⟨rfl, rfl⟩
            rw [hsB]
            go_wp2_with fail
            refine (hle.out _).mono ?_
            rintro e1 w2 ⟨rfl, rfl⟩
            rw [hlt]
            go_wp2_with fail
            refine (hle2.out _).mono ?_
            rintro e1 w2 ⟨rfl, rfl⟩
            go_wp2_with fail
            refine (hFd2.out _).mono ?_
            rintro e1 w2 ⟨rfl, rfl⟩
            go_wp2_with fail
            exact bodyPost_ret (v := .tuple #[.agg #[.int .i64 0, .string ⟨#[]⟩, .slice none 0 0, .string ⟨#[]⟩], .int .i64 (s.size : Int)]) (by simp [results, Tryz.results68, go_sem, z0, z1, z2, z3]) rfl hz.out
      · rw [if_neg hA] at hc
        have hguard : ((s[1] == 47) = false) ∨ ((s[1] == 47) = true ∧ ¬ 2 < s.size) ∨ ((s[1] == 47) = true ∧ ∃ h : 2 < s.size, M5.letterB s[2] = false) := by
          by_cases h1 : s[1] = 47
          · by_cases h2s : 2 < s.size
            · refine .inr (.inr ⟨beq_iff_eq.2 h1, h2s, ?_⟩)
              rcases Bool.eq_false_or_eq_true (M5.letterB s[2]) with h | h
              · exact absurd ⟨h1, by rw [drop_cons s 2 h2s]; exact congrArg some h⟩ hA
              · exact h
            · exact .inr (.inl ⟨beq_iff_eq.2 h1, h2s⟩)
          · exact .inl (beq_eq_false_iff_ne.2 h1)
        rw [← e47] at hguard
        replace hA := Lib.hid hA
        clear e47
        have hU := fun w => ref05upto s ⟨#[62]⟩ 2 w hs (by decide) (by decide) (by omega)
        have hfin := fun (w' : World) (hb : Below wo.heap.size wo w') => refPost_nil' (L := s.size) (w := wo) (w' := w') hc rfl hb
        generalize TokPost (M5.tagR s.data.toList).1 (s.size - (M5.tagR s.data.toList).2.length) wo = Post at *
        generalize M5.uptoR [62] (s.data.toList.drop 2) = p at *
        have bf := Lib.hid (Box.new wo 87 [.int .i64 4, .string ⟨#[]⟩, .slice none 0 0, .string (M5.bs p.1)])
        have hfin2 := Lib.hid (hfin _ ((Below.refl _ wo).alloc (Nat.le_refl _) (.cells #[.int .i64 4, .string ⟨#[]⟩, .slice none 0 0, .string (M5.bs p.1)] 87)))
        clear hfin
        replace hl := Lib.hid hl
        replace hc := Lib.hid hc
        replace hU := Lib.hid hU
        have z0 := bx0.cell (i := 0) rfl
        have z1 := bx0.cell (i := 1) rfl
        have z2 := bx0.cell (i := 2) rfl
        have z3 := bx0.cell (i := 3) rfl
        have fz := bx0.free
        have hsz : s.size < 3 ∨ (¬ s.size < 3 ∧ s.size < 4) ∨ ¬ s.size < 4 := by omega
        rcases hguard with h47 | ⟨h47, h2n⟩ | ⟨h47, h2s, hl2⟩
        · rcases hsz with h3s | ⟨h3s, h4s⟩ | h4s
          all_goals
            go_enter Tryz.func68, Tryz.ntmps68
            go_wp2_with fail
            refine (hst.out _).mono ?_
            rintro e1 w2 ⟨rfl, rfl⟩
            rw [hsB]
            go_wp2_with fail
            refine (hle.out _).mono ?_
            rintro e1 w2 ⟨rfl, rfl⟩
            rw [hlt]
            go_wp2_with fail
            refine (hU.out _).mono ?_
            rintro e1 w2 ⟨rfl, rfl⟩
            go_wp2_with fail
            have q0 := bf.out.cell (i := 0) rfl
            have q1 := bf.out.cell (i := 1) rfl
            have q2 := bf.out.cell (i := 2) rfl
            have q3 := bf.out.cell (i := 3) rfl
            exact bodyPost_ret (v := .tuple #[.agg #[.int .i64 4, .string ⟨#[]⟩, .slice none 0 0, .string (M5.bs p.1)], .int .i64 ((s.size - p.2.length : Nat) : Int)]) (by simp [results, Tryz.results68, go_sem, q0, q1, q2, q3]) rfl hfin2.out
        · have h3s : s.size < 3 := by omega
          go_enter Tryz.func68, Tryz.ntmps68
          go_wp2_with fail
          refine (hst.out _).mono ?_
          rintro e1 w2 ⟨rfl, rfl⟩
          rw [hsB]
          go_wp2_with fail
          refine (hle.out _).mono ?_
          rintro e1 w2 ⟨rfl, rfl⟩
          rw [hlt]
          go_wp2_with fail
          refine (hU.out _).mono ?_
          rintro e1 w2 ⟨rfl, rfl⟩
          go_wp2_with fail
          have q0 := bf.out.cell (i := 0) rfl
          have q1 := bf.out.cell (i := 1) rfl
          have q2 := bf.out.cell (i := 2) rfl
          have q3 := bf.out.cell (i := 3) rfl
          exact bodyPost_ret (v := .tuple #[.agg #[.int .i64 4, .string ⟨#[]⟩, .slice none 0 0, .string (M5.bs p.1)], .int .i64 ((s.size - p.2.length : Nat) : Int)]) (by simp [results, Tryz.results68, go_sem, q0, q1, q2, q3]) rfl hfin2.out
        · have hle2 : Hid (∀ w, Calls Tryz.prog 84 #[.int .u8 (s[2].toNat : Int)] w (BoolPost false w)) := Lib.hid (fun w => by rw [← hl2]; exact ref05letter s[2] w)
          rcases hsz with h3s | ⟨h3s, h4s⟩ | h4s
          · exact absurd h2s (by omega)
          all_goals
            go_enter Tryz.func68, Tryz.ntmps68
            go_wp2_with fail
            refine (hst.out _).mono ?_
            rintro e1 w2 ⟨rfl, rfl⟩
            rw [hsB]
            go_wp2_with fail
            refine (hle.out _).mono ?_
            rintro e1 w2 ⟨rfl, rfl⟩
            rw [hlt]
            go_wp2_with fail
            refine (hle2.out _).mono ?_
            rintro e1 w2 ⟨rfl, rfl⟩
            go_wp2_with fail
            refine (hU.out _).mono ?_
            rintro e1 w2 ⟨rfl, rfl⟩
            go_wp2_with fail
            have q0 := bf.out.cell (i := 0) rfl
            have q1 := bf.out.cell (i := 1) rfl
            have q2 := bf.out.cell (i := 2) rfl
            have q3 := bf.out.cell (i := 3) rfl
            exact bodyPost_ret (v := .tuple #[.agg #[.int .i64 4, .string ⟨#[]⟩, .slice none 0 0, .string (M5.bs p.1)], .int .i64 ((s.size - p.2.length : Nat) : Int)]) (by simp [results, Tryz.results68, go_sem, q0, q1, q2, q3]) rfl hfin2.out
    · rw [hp3, if_pos rfl] at hc
      have h3s : 3 ≤ s.size := pre_len hp3
      have h3e := cutE s [60, 47, 62] 3 rfl true hp3
      have hz : Hid (TokPost (M5.tagR s.data.toList).1 (s.size - (M5.tagR s.data.toList).2.length) wo (.returned (.tuple #[.agg #[.int .i64 0, .string ⟨#[]⟩, .slice none 0 0, .string ⟨#[]⟩], .int .i64 3])) (wo.alloc (.cells #[.int .i64 0, .string ⟨#[]⟩, .slice none 0 0, .string ⟨#[]⟩] 87))) :=
        Lib.hid (refPost_nil' hc (by rw [List.length_drop, hsl]; omega) hb0.out)
      have z0 := bx0.cell (i := 0) rfl
      have z1 := bx0.cell (i := 1) rfl
      have z2 := bx0.cell (i := 2) rfl
      have z3 := bx0.cell (i := 3) rfl
      have fz := bx0.free
      generalize TokPost (M5.tagR s.data.toList).1 (s.size - (M5.tagR s.data.toList).2.length) wo = Post at *
      replace hl := Lib.hid hl
      replace hc := Lib.hid hc
      rcases Nat.lt_or_ge s.size 4 with h4s | h4s
      all_goals
        go_enter Tryz.func68, Tryz.ntmps68
        go_wp2_with fail
        refine (hst.out _).mono ?_
        rintro e1 w2 ⟨rfl, rfl⟩
        rw [hsB]
        go_wp2_with fail
        refine (hle.out _).mono ?_
        rintro e1 w2 ⟨rfl, rfl⟩
        rw [hlt]
        go_wp2_with fail
        exact bodyPost_ret (v := .tuple #[.agg #[.int .i64 0, .string ⟨#[]⟩, .slice none 0 0, .string ⟨#[]⟩], .int .i64 3]) (by simp [results, Tryz.results68, go_sem, z0, z1, z2, z3]) rfl hz.out
  · rw [hp4, if_pos rfl] at hc
    have h4s : 4 ≤ s.size := pre_len hp4
    have h4e := cutE s [60, 33, 45, 45] 4 rfl true hp4
    have hU := fun w => ref05upto s ⟨#[45, 45, 62]⟩ 4 w hs (by decide) (by decide) h4s
    have hfin := fun (w' : World) (hb : Below wo.heap.size wo w') => refPost_nil' (L := s.size) (w := wo) (w' := w') hc rfl hb
    generalize TokPost (M5.tagR s.data.toList).1 (s.size - (M5.tagR s.data.toList).2.length) wo = Post at *
    generalize M5.uptoR [45, 45, 62] (s.data.toList.drop 4) = p at *
    have bf := Lib.hid (Box.new wo 87 [.int .i64 4, .string ⟨#[]⟩, .slice none 0 0, .string (M5.bs p.1)])
    have hfin2 := Lib.hid (hfin _ ((Below.refl _ wo).alloc (Nat.le_refl _) (.cells #[.int .i64 4, .string ⟨#[]⟩, .slice none 0 0, .string (M5.bs p.1)] 87)))
    clear hfin
    replace hl := Lib.hid hl
    replace hc := Lib.hid hc
    replace hU := Lib.hid hU
    have z0 := bx0.cell (i := 0) rfl
    have z1 := bx0.cell (i := 1) rfl
    have z2 := bx0.cell (i := 2) rfl
    have z3 := bx0.cell (i := 3) rfl
    have fz := bx0.free
    go_enter Tryz.func68, Tryz.ntmps68
    go_wp2_with fail
    refine (hst.out _).mono ?_
    rintro e1 w2 ⟨rfl, rfl⟩
    rw [hsB]
    go_wp2_with fail
    refine (hle.out _).mono ?_
    rintro e1 w2 ⟨rfl, rfl⟩
    rw [hlt]
    go_wp2_with fail
    refine (hU.out _).mono ?_
    rintro e1 w2 ⟨rfl, rfl⟩
    go_wp2_with fail
    have q0 := bf.out.cell (i := 0) rfl
    have q1 := bf.out.cell (i := 1) rfl
    have q2 := bf.out.cell (i := 2) rfl
    have q3 := bf.out.cell (i := 3) rfl
    exact bodyPost_ret (v := .tuple #[.agg #[.int .i64 4, .string ⟨#[]⟩, .slice none 0 0, .string (M5.bs p.1)], .int .i64 ((s.size - p.2.length : Nat) : Int)]) (by simp [results, Tryz.results68, go_sem, q0, q1, q2, q3]) rfl hfin2.out
end Go.Proofs.YteefodibpjgicaaGreat

namespace Go.Proofs.YteefodibpjgicaaGreat
open Go.RowKit
def pieceL (L : List UInt8) (a i : Nat) : List UInt8 := (L.drop a).take (i - a)
theorem piece_snoc (s : ByteArray) (a i : Nat) (ha : a ≤ i) (hi : i < s.size) : pieceL s.data.toList a (i + 1) = pieceL s.data.toList a i ++ [s[i]] := by
  unfold pieceL
  have h : i - a < (s.data.toList.drop a).length := by rw [List.length_drop]; show i - a < s.size - a; omega
  rw [show i + 1 - a = (i - a) + 1 by omega, List.take_succ_eq_append_getElem h, List.getElem_drop]
  congr 2
  have hi2 : i < s.data.toList.length := hi
  have e : ∀ j (hj : j < s.data.toList.length), j = i → s.data.toList[j] = s.data.toList[i] := fun j hj h => by subst h; rfl
  exact e _ _ (by omega)
theorem piece_nil (L : List UInt8) (a : Nat) : pieceL L a a = [] := by unfold pieceL; rw [Nat.sub_self]; rfl
theorem piece_cut (s : ByteArray) (a i : Nat) : s.extract a i = M5.bs (pieceL s.data.toList a i) := bs_cut s a i
theorem charsT_ne {p : List UInt8} (h : p ≠ []) : M5.charsT p = [⟨3, ⟨#[]⟩, [], M5.bs (M2.decode p)⟩] := by
  unfold M5.charsT
  rw [if_neg]
  rw [Bool.not_eq_true, List.isEmpty_eq_false_iff]
  exact h
theorem piece_ne (s : ByteArray) (a i : Nat) (h : a < i) (hi : i ≤ s.size) : pieceL s.data.toList a i ≠ [] := fun e => by
  have := congrArg List.length e
  unfold pieceL at this
  rw [List.length_take, List.length_drop, List.length_nil] at this
  have h2 : s.data.toList.length = s.size := rfl
  omega
theorem tok_one (k : Int) (nm : ByteArray) (a : Option Addr) (n c : Nat) (tx : ByteArray) : ∀ u ∈ [Value.int .i64 k, .string nm, .slice a n c, .string tx], u.oneCell' = true := by
  intro u hu
  simp only [List.mem_cons, List.not_mem_nil, or_false] at hu
  rcases hu with rfl | rfl | rfl | rfl <;> rfl
theorem fold_len5 (l : List UInt8) : (M1.fold l).length = l.length := by unfold M1.fold; rw [List.length_map]
theorem bs_size5 (l : List UInt8) : (M5.bs l).size = l.length := by
  show (M5.bs l).data.size = _
  rw [← Array.length_toList, M5.bs_data]
theorem begin_name_le5 (l : List UInt8) : (M5.beginR l).1.name.size ≤ l.length := by
  unfold M5.beginR
  split
  · show (M5.bs (M1.fold ((l.drop 1).takeWhile M5.nameB))).size ≤ _
    rw [bs_size5, fold_len5]
    have h1 := (List.takeWhile_prefix (l := l.drop 1) M5.nameB).length_le
    have h2 : (l.drop 1).length = l.length - 1 := List.length_drop
    omega
  · exact Nat.zero_le _
theorem tag_name_le5 (l : List UInt8) : (M5.tagR l).1.name.size ≤ l.length := by
  unfold M5.tagR
  split
  · split
    · rename_i c d r _
      split
      · exact begin_name_le5 _
      · split
        · exact Nat.zero_le _
        · split
          · exact Nat.zero_le _
          · split
            · split
              · show (M5.bs (M1.fold (r.takeWhile M5.nameB))).size ≤ _
                rw [bs_size5, fold_len5]
                have h1 := (List.takeWhile_prefix (l := r) M5.nameB).length_le
                simp only [List.length_cons]
                omega
              · exact Nat.zero_le _
            · exact Nat.zero_le _
    · exact Nat.zero_le _
  · exact Nat.zero_le _
theorem own_new5 {w w0 : World} {B n : Nat} {v va : Value} {l : List Tok} {xs : List Value} (h : w.ownsRow w0.heap.size 43 2 va n xs) (hl : Toks w0 B v l) (hB : B ≤ w0.heap.size) : Row (fun b => B ≤ b ∧ b < w.heap.size ∧ v.ownBlock ≠ some b) w 2 va n xs :=
  Row.own h (fun g hg => by
    have h1 := h.lt g hg
    exact ⟨by omega, h1.2, fun e => by have := (hl.lt e).2; omega⟩)
theorem cellB5 {B : Nat} {w w' : World} (hb : Below B w w') {b o : Nat} {v : Value} (h : w.cell? ⟨b, o, none⟩ = some v) (hlt : b < B) : w'.cell? ⟨b, o, none⟩ = some v := (hb.cell (p := ⟨b, o, none⟩) hlt).trans h
def RToksPost (l : List Tok) (w : World) (e : Ending) (w' : World) : Prop := ∃ v, e = .returned v ∧ Toks w' w.heap.size v l ∧ Below w.heap.size w w'
set_option maxHeartbeats 8000000 in
set_option maxRecDepth 100000 in
theorem ref05Tokens (s : ByteArray) (w : World) (hs : s.size ≤ 1073741824) : Calls Tryz.prog 43 #[.string s] w (RToksPost (M5.tokens s.data.toList) w) := by
  obtain ⟨wo, rfl⟩ : ∃ wo : World, wo = w := ⟨_, rfl⟩
  obtain ⟨T, hT⟩ : ∃ T, Hid (T = M5.tokens s.data.toList) := ⟨_, rfl⟩
  rw [← hT.out]
  have hsl : s.data.toList.length = s.size := rfl
  have hD := Lib.hid (fun (a i : Nat) (w : World) => ref02Decode (s.extract a i) w (by rw [ByteArray.size_extract]; omega))
  go_enter Tryz.func43, Tryz.ntmps43
  go_wp2_with fail
  go_loopw [3, 4, 5] (fun u3 u4 u5 wr => ∃ (a i : Nat) (acc : List Tok), u4 = .int .i64 (a : Int) ∧ u5 = .int .i64 (i : Int) ∧ a ≤ i ∧ i ≤ s.size ∧ acc.length ≤ a ∧ Toks wr wo.heap.size u3 acc ∧ Below wo.heap.size wo wr ∧ Hid (T = acc ++ M5.toksR (pieceL s.data.toList a i) (s.data.toList.drop i))) (fun _ _ u5 _ => s.size - (intOf u5).toNat)
  case atStart => exact ⟨0, 0, [], rfl, rfl, Nat.le_refl _, Nat.zero_le _, Nat.le_refl _, Toks.nil _ _, Below.refl _ _, by show _ = _; rw [hT.out, piece_nil, M5.tokens_eq]; rfl⟩
  case round =>
    obtain ⟨a, i, acc, rfl, rfl, hai, his, hal, hl, hbw, hv⟩ := hrel
    by_cases hlt : i < s.size
    · have hS := Lib.hid (fun w => ref05Starts (s.extract i s.size) w (by rw [ByteArray.size_extract]; omega))
      have hxd : (s.extract i s.size).data.toList = s.data.toList.drop i := by rw [Lib.extract_data, List.take_of_length_le (by rw [List.length_drop]; exact Nat.le_refl _)]
      rw [hxd] at hS
      cases hsB : M5.startsB (s.data.toList.drop i)
      · have hv2 : Hid (T = acc ++ M5.toksR (pieceL s.data.toList a (i + 1)) (s.data.toList.drop (i + 1))) := by
          show _ = _
          rw [hv.out]
          rw [drop_cons s i hlt] at hsB ⊢
          rw [M5.toksR_text _ _ _ hsB, piece_snoc s a i hai hlt]
        replace hxd := Lib.hid hxd
        go_wp2_with fail
        refine (hS.out _).mono ?_
        rintro e1 w2 ⟨rfl, rfl⟩
        rw [hsB]
        go_wp2_with fail
        go_roundw
        case rel => exact ⟨a, i + 1, acc, rfl, by go_num, by omega, by omega, hal, hl, hbw, hv2⟩
        case measure => exact rf_meas hlt
      · have hTg := Lib.hid (fun w => ref05Tag (s.extract i s.size) w (by rw [ByteArray.size_extract]; omega))
        rw [hxd] at hTg
        have hxz : (s.extract i s.size).size = s.size - i := by rw [ByteArray.size_extract]; omega
        rw [hxz] at hTg
        obtain ⟨a3, c3, rfl⟩ := hl.slice
        replace hxd := Lib.hid hxd
        go_upto_if 25 with (go_at_call 66; refine (hS.out _).mono ?_; rintro e1 w2 ⟨rfl, rfl⟩; rw [hsB])
        go_cut [3] from 11 to 88 (fun s3 wx => Toks wx wo.heap.size s3 (acc ++ M5.charsT (pieceL s.data.toList a i)) ∧ Below wo.heap.size wo wx)
        case first =>
          by_cases hgt : a < i
          · have hdec := hD.out a i
            rw [show (s.extract a i).data.toList = pieceL s.data.toList a i from Lib.extract_data _ _ _] at hdec
            have hch := charsT_ne (piece_ne s a i hgt his)
            obtain ⟨dv, hdv⟩ : ∃ x, Hid (x = M5.bs (M2.decode (pieceL s.data.toList a i))) := ⟨_, rfl⟩
            have hdec2 : Hid (∀ w, Calls Tryz.prog 67 #[.string (s.extract a i)] w (fun e w' => e = .returned (.string dv) ∧ Below w.heap.size w w')) := Lib.hid (fun w => (hdec w).mono (by
              rintro e w' ⟨rfl, hb⟩
              exact ⟨by rw [hdv.out]; rfl, hb⟩))
            rw [← hdv.out] at hch
            clear hdec hTg
            replace hch := Lib.hid hch
            have hgti : decide ((a : Int) < (i : Int)) = true := decide_eq_true (by omega)
            go_wp2_with fail
            refine (hdec2.out _).mono ?_
            rintro e1 w2 ⟨rfl, hb2⟩
            obtain ⟨xs, hown, hrep⟩ := hl.below hb2
            have hbw2 := Lib.hid (bt hbw hb2)
            clear hb2
            go_wp2_with (at_builtin; refine wpList_appOne w2 [.int .i64 3, .string ⟨#[]⟩, .slice none 0 0, .string dv] rfl _ _ 61 87 rfl wo.heap.size 4 Tryz.underlying61 infoT5 rfl (by omega) _ acc.length xs rfl hown w2.heap.size rfl (by rfl) rfl (tok_one _ _ _ _ _ _) (by omega) (by omega) hbw2.out.size ?_; intro gg cap' w5 hown5 hgrow hat5)
            go_meet
            case rel => exact ⟨by rw [hch.out]; exact Toks.snoc (t := ⟨3, ⟨#[]⟩, [], dv⟩) hrep (Row.nil _ _ _) hgrow hat5 hown5, hbw2.out.grown hgrow hbw2.out.size (fun k hk => (hown.lt k hk).1)⟩
          · obtain rfl : a = i := by omega
            have hgti : decide ((a : Int) < (a : Int)) = false := decide_eq_false (by omega)
            go_wp2_with fail
            go_meet
            case rel => exact ⟨by rw [piece_nil]; show Toks wr wo.heap.size _ (acc ++ []); rw [List.append_nil]; exact hl, hbw⟩
        case rest =>
          obtain ⟨hl1, hb1⟩ := hcut
          clear hl hbw hS
          obtain ⟨acc1, hacc1⟩ : ∃ x, Hid (x = acc ++ M5.charsT (pieceL s.data.toList a i)) := ⟨_, rfl⟩
          rw [← hacc1.out] at hl1
          have hal1 : acc1.length ≤ i := by
            rw [hacc1.out, List.length_append]
            by_cases hgt : a < i
            · rw [charsT_ne (piece_ne s a i hgt his)]
              show acc.length + 1 ≤ i
              omega
            · obtain rfl : a = i := by omega
              rw [piece_nil]
              exact hal
          obtain ⟨a4, c4, rfl⟩ := hl1.slice
          have htl := M5.tag_lt (s.data.toList.drop i) hsB
          have hat := (M5.tag_suf (s.data.toList.drop i)).at_
          have hdl : (s.data.toList.drop i).length = s.size - i := List.length_drop
          rw [hdl] at htl hat
          rw [List.drop_drop] at hat
          have hraw := M5.toks_tag (s.data.toList.drop i) hsB
          have hnml := tag_name_le5 (s.data.toList.drop i)
          rw [hdl] at hnml
          obtain ⟨n, hn⟩ : ∃ n, n = s.size - i - (M5.tagR (s.data.toList.drop i)).2.length := ⟨_, rfl⟩
          have hv1 : Hid (T = acc1 ++ M5.toksR [] (s.data.toList.drop i)) := by
            show _ = _
            rw [hv.out, hacc1.out, M5.toksR_tag _ _ hsB, M5.toksR_tag [] _ hsB, List.append_assoc]
            rfl
          rw [← hn] at hTg hat
          have hnp : 0 < n := by omega
          have hnle : i + n ≤ s.size := by omega
          rw [← hat] at hraw
          generalize (M5.tagR (s.data.toList.drop i)).1 = t at *
          clear htl hat
          replace hn := Lib.hid hn
          replace hraw := Lib.hid hraw
          go_upto_if 47 with (go_at_call 68; refine (hTg.out _).mono ?_; rintro e1 w2 ⟨va, rfl, hown2, hb2⟩; obtain ⟨a5, c5, rfl⟩ := own_slice5 hown2)
          have bt3 := Box.new w2 87 [.int .i64 t.kind, .string t.name, .slice a5 t.attrs.length c5, .string t.text]
          have hb23 := (Below.refl w2.heap.size w2).alloc (Nat.le_refl _) (.cells #[.int .i64 t.kind, .string t.name, .slice a5 t.attrs.length c5, .string t.text] 87)
          have hl3 := (hl1.below hb2).below hb23
          have hrow3 := own_new5 (hown2.alloc (.cells #[.int .i64 t.kind, .string t.name, .slice a5 t.attrs.length c5, .string t.text] 87)) hl1 hb1.size
          have hbw3 := Lib.hid (bt (bt hb1 hb2) hb23)
          have hbt : (Value.slice a4 acc1.length c4).ownBlock ≠ some w2.heap.size := fun e => by have := (hl1.lt e).2; have := hb2.size; omega
          have hj2 : Hid (s.data.toList.drop (i + n) = s.data.toList.drop (i + n)) := rfl
          have hws2 : wo.heap.size ≤ w2.heap.size := Nat.le_trans hb1.size hb2.size
          generalize w2.alloc (.cells #[.int .i64 t.kind, .string t.name, .slice a5 t.attrs.length c5, .string t.text] 87) = w3 at *
          clear hown2 hb2 hb23 hl1 hb1 hTg hj2
          go_cut [3, 5] from 11 to 88 (fun s3 s5 wx => s5 = .int .i64 ((i + n : Nat) : Int) ∧ Toks wx wo.heap.size s3 (acc1 ++ M5.keepT t) ∧ Box wx w2.heap.size 87 [.int .i64 t.kind, .string t.name, .slice a5 t.attrs.length c5, .string t.text] ∧ Below wo.heap.size wo wx)
          case first =>
            have u0 := bt3.cell (i := 0) rfl
            have u1 := bt3.cell (i := 1) rfl
            have u2 := bt3.cell (i := 2) rfl
            have u3 := bt3.cell (i := 3) rfl
            by_cases hk : t.kind = 0
            · have hk' : (t.kind != 0) = false := by rw [hk]; rfl
              have hkeep : M5.keepT t = [] := by unfold M5.keepT; rw [if_neg (by simpa using hk)]
              replace hk := Lib.hid hk
              go_wp2_with fail
              go_meet
              case rel => exact ⟨by rw [Int.natCast_add], by rw [hkeep, List.append_nil]; exact hl3, bt3, hbw3.out⟩
            · have hk' : (t.kind != 0) = true := bne_iff_ne.2 hk
              have hkeep : M5.keepT t = [t] := by unfold M5.keepT; rw [if_pos hk]
              replace hk := Lib.hid hk
              obtain ⟨xs, hown, hrep⟩ := hl3
              have hbw3s := hbw3.out.size
              go_wp2_with (at_builtin; refine wpList_appOne w3 [.int .i64 t.kind, .string t.name, .slice a5 t.attrs.length c5, .string t.text] rfl _ _ 61 87 rfl wo.heap.size 4 Tryz.underlying61 infoT5 rfl (by omega) _ acc1.length xs rfl hown w3.heap.size rfl (by rfl) rfl (tok_one _ _ _ _ _ _) (by omega) (by omega) hbw3s ?_; intro gg cap' w5 hown5 hgrow hat5)
              go_meet
              case rel => exact ⟨by rw [Int.natCast_add], by rw [hkeep]; exact Toks.snoc (t := t) hrep hrow3 hgrow hat5 hown5, bt3.keep (hgrow.block _ bt3.lt (Ne.symm hbt)), hbw3.out.grown hgrow hbw3s (fun k hk => (hown.lt k hk).1)⟩
          case rest =>
            clear hl3 hrow3 bt3 hbw3 hbt
            obtain ⟨rfl, hl4, bt4, hb4⟩ := hcut
            obtain ⟨acc2, hacc2⟩ : ∃ x, Hid (x = acc1 ++ M5.keepT t) := ⟨_, rfl⟩
            rw [← hacc2.out] at hl4
            have hal2 : acc2.length ≤ i + 1 := by
              rw [hacc2.out, List.length_append]
              have : (M5.keepT t).length ≤ 1 := by unfold M5.keepT; split <;> simp
              omega
            have hv2 : Hid (T = acc2 ++ ((M5.rawT t (s.data.toList.drop (i + n))).1 ++ M5.toksR [] (M5.rawT t (s.data.toList.drop (i + n))).2)) := by
              show _ = _
              rw [hv1.out, hraw.out, hacc2.out, List.append_assoc]
              rfl
            obtain ⟨a6, c6, rfl⟩ := hl4.slice
            have hij : i + 1 ≤ i + n := by omega
            replace hraw := Lib.hid hraw
            clear hraw hn
            generalize i + n = j at *
            have hRaw := Lib.hid (fun w => ref03Raw t.name w)
            have u0 := bt4.cell (i := 0) rfl
            have u1 := bt4.cell (i := 1) rfl
            by_cases hk1 : t.kind = 1
            · have ek : (t.kind == 1) = true := beq_iff_eq.2 hk1
              cases hrw : M3.rawB t.name.data.toList
              · have hrt := M5.rawT_not t (s.data.toList.drop j) (fun h => by rw [hrw] at h; cases h.2)
                rw [hrt] at hv2
                replace hrt := Lib.hid hrt
                replace hk1 := Lib.hid hk1
                go_wp2_with fail
                refine (hRaw.out _).mono ?_
                rintro e1 w5 ⟨rfl, rfl⟩
                rw [hrw]
                go_wp2_with fail
                go_roundw
                case rel => exact ⟨j, j, acc2, rfl, rfl, Nat.le_refl _, hnle, by omega, hl4, hb4, by show _ = _; rw [hv2.out, piece_nil]; rfl⟩
                case measure => simp [intOf]; omega
              · have hrt := M5.rawT_raw t (s.data.toList.drop j) ⟨hk1, hrw⟩
                replace hk1 := Lib.hid hk1
                have hEs := Lib.hid (fun w => ref05Ends (s.extract j s.size) t.name w (by rw [ByteArray.size_extract]; omega) (by omega))
                have hxj : (s.extract j s.size).data.toList = s.data.toList.drop j := by rw [Lib.extract_data, List.take_of_length_le (by rw [List.length_drop]; exact Nat.le_refl _)]
                rw [hxj] at hEs
                have hdj : (s.data.toList.drop j).length = s.size - j := List.length_drop
                obtain ⟨E, hE⟩ : ∃ E, Hid (E = M5.endN t.name.data.toList (s.data.toList.drop j)) := ⟨_, rfl⟩
                have hEle : E ≤ s.size - j := by rw [hE.out, ← hdj]; exact M5.endN_le _ _
                rw [← hE.out] at hrt
                have hEv : Hid (E = match M5.endsL ([60, 47] ++ t.name.data.toList) (s.data.toList.drop j) with | some k => k | none => s.size - j) := by
                  show _ = _
                  rw [hE.out, ← hdj]
                  unfold M5.endN
                  try (cases M5.endsL ([60, 47] ++ t.name.data.toList) (s.data.toList.drop j) <;> rfl)
                go_upto_region 16 with (go_at_call 64; refine (hRaw.out _).mono ?_; rintro e1 w5 ⟨rfl, rfl⟩; rw [hrw])
                obtain ⟨O, hO⟩ : ∃ O, Hid (O = M5.endsL ([60, 47] ++ t.name.data.toList) (s.data.toList.drop j)) := ⟨M5.endsL ([60, 47] ++ t.name.data.toList) (s.data.toList.drop j), Lib.hid rfl⟩
                rw [← hO.out] at hEs hEv
                clear hRaw hE hO
                have b1 : (0 : Int) ≤ (j : Int) := by omega
                have b2 : (j : Int) ≤ (s.size : Int) := by omega
                refine wp_region_known (n := 7) ([some (Value.string s), some (Value.int IntKind.i64 (j : Int)), some (.string (s.extract j s.size)), some (.pointer (some ⟨w2.heap.size, 1, none⟩)), some (.string t.name), some (.int .i64 (endV O)), some (.int .i64 (endV O))] : List (Option Value)) (fun tt => ⟨#[Value.string s, undef, Value.slice none 0 0, Value.slice a6 acc2.length c6, Value.int IntKind.i64 (a : Int), Value.int IntKind.i64 (j : Int), Value.bool true, Value.pointer (some ⟨w2.heap.size, 0, none⟩), Value.int IntKind.i64 (n : Int), Value.bool true, tt 6, u11, u12, u13, u14, u15, u16, u17, u18, u19, u20, u21, u22, u23, u24, u25, u26, u27, u28, u29, u30, u31, u32, u33, u34, u35, u36, u37, u38, u39, u40, u41, u42, u43, u44, u45, u46, u47, u48, u49, u50, u51, Value.pointer (some ⟨w2.heap.size, 1, none⟩), Value.string t.name, Value.bool true, Value.pointer (some ⟨w2.heap.size, 0, none⟩), Value.int IntKind.i64 t.kind, Value.bool true, Value.bool true, Value.bool true, Value.bool true, tt 0, tt 1, tt 2, tt 3, tt 4, tt 5, u67, u68, u69, u70, u71, u72, u73, u74, u75, u76, u77, u78, u79, u80, u81, u82, u83, u84, u85, u86, u87, u88, undef, undef, undef, undef, undef, undef, undef, undef, undef, undef, undef, undef, undef], []⟩) (fun f tt W => Below w5.heap.size w5 W) (fun j => match j with | 0 => u61 | 1 => u62 | 2 => u63 | 3 => u64 | 4 => u65 | 5 => u66 | 6 => u10 | _ => undef) (by kernel_rfl) (by rfl) (by rfl) (by kernel_rfl) rfl ?i0 ?step ?fin
                case i0 =>
                  exact (Below.refl _ w5).drew
                case step =>
                  intro j0 hj0 f tt W hfi hwt hk2 hI
                  have s0 := cellB5 hI u1 bt4.lt
                  obtain rfl | rfl | rfl | rfl | rfl | rfl | rfl : j0 = 0 ∨ j0 = 1 ∨ j0 = 2 ∨ j0 = 3 ∨ j0 = 4 ∨ j0 = 5 ∨ j0 = 6 := by omega
                  · -- operation 0
                    replace hI := Lib.hid hI
                    replace hk2 := Lib.hid hk2
                    clear hwt
                    refine wpOp_step rfl (fun K hK => ?_)
                    go_simp
                    exact hK _ _ ⟨_, by simp [updT], hk2.out.at_ rfl, hI.out⟩
                  · -- operation 1
                    replace hI := Lib.hid hI
                    replace hk2 := Lib.hid hk2
                    clear hwt
                    refine wpOp_step rfl (fun K hK => ?_)
                    go_simp
                    exact hK _ _ ⟨_, by simp [updT], hk2.out.at_ rfl, hI.out⟩
                  · -- operation 2
                    have e0 : tt 0 = Value.string s := hk2 0 _ (hwt 0 (by kernel_rfl)) rfl
                    have e1 : tt 1 = Value.int IntKind.i64 (j : Int) := hk2 1 _ (hwt 1 (by kernel_rfl)) rfl
                    replace hI := Lib.hid hI
                    replace hk2 := Lib.hid hk2
                    clear hwt
                    refine wpOp_step rfl (fun K hK => ?_)
                    go_simp
                    exact hK _ _ ⟨_, by simp [updT, e0, e1], hk2.out.at_ rfl, hI.out⟩
                  · -- operation 3
                    replace hI := Lib.hid hI
                    replace hk2 := Lib.hid hk2
                    clear hwt
                    refine wpOp_step rfl (fun K hK => ?_)
                    go_simp
                    exact hK _ _ ⟨_, by simp [updT], hk2.out.at_ rfl, hI.out⟩
                  · -- operation 4
                    have e3 : tt 3 = .pointer (some ⟨w2.heap.size, 1, none⟩) := hk2 3 _ (hwt 3 (by kernel_rfl)) rfl
                    replace hI := Lib.hid hI
                    replace hk2 := Lib.hid hk2
                    clear hwt
                    refine wpOp_step rfl (fun K hK => ?_)
                    go_simp
                    exact hK _ _ ⟨_, by simp [updT, e3], hk2.out.at_ rfl, hI.out⟩
                  · -- operation 5
                    have e2 : tt 2 = .string (s.extract j s.size) := hk2 2 _ (hwt 2 (by kernel_rfl)) rfl
                    have e4 : tt 4 = .string t.name := hk2 4 _ (hwt 4 (by kernel_rfl)) rfl
                    have hC := Lib.hid (hEs.out W)
                    replace hk2 := Lib.hid hk2
                    replace hI := Lib.hid hI
                    clear hwt
                    refine wpOp_step rfl (fun K hK => ?_)
                    go_simp
                    refine hC.out.mono ?_
                    rintro e w6 ⟨rfl, hb6⟩
                    exact hK _ _ ⟨_, by simp [updT, e2, e4], hk2.out.at_ rfl, bt hI.out hb6⟩
                  · -- operation 6
                    have e5 : tt 5 = .int .i64 (endV O) := hk2 5 _ (hwt 5 (by kernel_rfl)) rfl
                    replace hI := Lib.hid hI
                    replace hk2 := Lib.hid hk2
                    clear hwt
                    refine wpOp_step rfl (fun K hK => ?_)
                    go_simp
                    exact hK _ _ ⟨_, by simp [updT, e5], hk2.out.at_ rfl, hI.out⟩
                case fin =>
                  intro f tt W hall hk2 hI
                  have hI2 := hI
                  have e10 := hk2 6 _ (hall 6 (by omega)) rfl
                  clear hk2 hall
                  dsimp only
                  rw [e10]
                  rw [hrt, List.drop_drop] at hv2
                  have hlW := hl4.below hI2
                  have hbW := Lib.hid (bt hb4 hI2)
                  have hbWs := hbW.out.size
                  obtain ⟨Wo, rfl⟩ : ∃ X : World, X = W := ⟨_, rfl⟩
                  go_upto_if 68 with fail
                  go_cut [10] from 11 to 88 (fun s10 wx => s10 = .int .i64 (E : Int) ∧ Wo = wx)
                  case first =>
                    cases hO2 : O with
                    | none =>
                      rw [hO2] at hEv
                      have hEe : (s.size : Int) - (j : Int) = (E : Int) := by rw [hEv.out]; show _ = ((s.size - j : Nat) : Int); omega
                      have hev : endV none = -1 := rfl
                      go_wp2_with fail
                      go_meet
                      case rel => exact ⟨rfl, rfl⟩
                    | some k =>
                      rw [hO2] at hEv
                      have hEe : E = k := hEv.out
                      have hev : endV (some k) = (k : Int) := rfl
                      subst hEe
                      have hneg : decide ((E : Int) < 0) = false := decide_eq_false (by omega)
                      go_wp2_with fail
                      go_meet
                      case rel => exact ⟨rfl, rfl⟩
                  case rest =>
                    obtain ⟨rfl, rfl⟩ := hcut
                    by_cases hE0 : E = 0
                    · subst hE0
                      go_wp2_with fail
                      go_roundw
                      case rel => exact ⟨j, j, acc2, rfl, rfl, Nat.le_refl _, hnle, by omega, hlW, hbW.out, by show _ = _; rw [hv2.out, piece_nil]; rfl⟩
                      case measure => simp [intOf]; omega
                    · have hgt : decide ((0 : Int) < (E : Int)) = true := decide_eq_true (by omega)
                      have hkc : Hid (M5.keepT (M5.contC E (s.data.toList.drop j)) = [⟨3, ⟨#[]⟩, [], s.extract j (j + E)⟩]) := by
                        show _ = _
                        rw [piece_cut, M5.contC, if_neg hE0]
                        unfold pieceL
                        rw [Nat.add_sub_cancel_left]
                        rfl
                      obtain ⟨xs, hown, hrep⟩ := hlW
                      go_wp2_with (at_builtin; refine wpList_appOne Wo [.int .i64 3, .string ⟨#[]⟩, .slice none 0 0, .string (s.extract j (j + E))] rfl _ _ 61 87 rfl wo.heap.size 4 Tryz.underlying61 infoT5 rfl (by omega) _ acc2.length xs rfl hown Wo.heap.size rfl (by rfl) rfl (tok_one _ _ _ _ _ _) (by omega) (by omega) hbWs ?_; intro gg cap' w7 hown7 hgrow hat7)
                      go_roundw
                      case rel => exact ⟨j + E, j + E, acc2 ++ [⟨3, ⟨#[]⟩, [], s.extract j (j + E)⟩], by rw [Int.natCast_add], by rw [Int.natCast_add], Nat.le_refl _, by omega, by rw [List.length_append]; show acc2.length + 1 ≤ j + E; omega, Toks.snoc (t := ⟨3, ⟨#[]⟩, [], s.extract j (j + E)⟩) hrep (Row.nil _ _ _) hgrow hat7 hown7, hbW.out.grown hgrow hbWs (fun k hk => (hown.lt k hk).1), by show _ = _; rw [hv2.out, piece_nil, hkc.out, List.append_assoc]⟩
                      case measure => simp [intOf]; omega
            · have ek : (t.kind == 1) = false := beq_eq_false_iff_ne.2 hk1
              have hrt := M5.rawT_not t (s.data.toList.drop j) (fun h => hk1 h.1)
              rw [hrt] at hv2
              replace hrt := Lib.hid hrt
              replace hk1 := Lib.hid hk1
              go_wp2_with fail
              refine (hRaw.out _).mono ?_
              rintro e1 w5 ⟨rfl, rfl⟩
              go_wp2_with fail
              go_roundw
              case rel => exact ⟨j, j, acc2, rfl, rfl, Nat.le_refl _, hnle, by omega, hl4, hb4, by show _ = _; rw [hv2.out, piece_nil]; rfl⟩
              case measure => simp [intOf]; omega
    · obtain rfl : i = s.size := by omega
      have hv2 : Hid (T = acc ++ M5.charsT (pieceL s.data.toList a s.size)) := by show _ = _; rw [hv.out, drop_end s s.size (Nat.le_refl _), M5.toksR_nil]
      obtain ⟨a3, c3, rfl⟩ := hl.slice
      by_cases hgt : a < s.size
      · have hdec := hD.out a s.size
        rw [show (s.extract a s.size).data.toList = pieceL s.data.toList a s.size from Lib.extract_data _ _ _] at hdec
        have hch := charsT_ne (piece_ne s a s.size hgt (Nat.le_refl _))
        obtain ⟨dv, hdv⟩ : ∃ x, Hid (x = M5.bs (M2.decode (pieceL s.data.toList a s.size))) := ⟨_, rfl⟩
        have hdec2 : Hid (∀ w, Calls Tryz.prog 67 #[.string (s.extract a s.size)] w (fun e w' => e = .returned (.string dv) ∧ Below w.heap.size w w')) := Lib.hid (fun w => (hdec w).mono (by
          rintro e w' ⟨rfl, hb⟩
          exact ⟨by rw [hdv.out]; rfl, hb⟩))
        rw [← hdv.out] at hch
        rw [hch] at hv2
        clear hdec
        replace hch := Lib.hid hch
        have hgti : decide ((a : Int) < (s.size : Int)) = true := decide_eq_true (by omega)
        go_wp2_with fail
        refine (hdec2.out _).mono ?_
        rintro e1 w2 ⟨rfl, hb2⟩
        obtain ⟨xs, hown, hrep⟩ := hl.below hb2
        have hbw2 := Lib.hid (bt hbw hb2)
        clear hb2
        go_wp2_with (at_builtin; refine wpList_appOne w2 [.int .i64 3, .string ⟨#[]⟩, .slice none 0 0, .string dv] rfl _ _ 61 87 rfl wo.heap.size 4 Tryz.underlying61 infoT5 rfl (by omega) _ acc.length xs rfl hown w2.heap.size rfl (by rfl) rfl (tok_one _ _ _ _ _ _) (by omega) (by omega) hbw2.out.size ?_; intro gg cap' w5 hown5 hgrow hat5)
        go_ret
        exact ⟨_, rfl, by rw [hv2.out]; exact Toks.snoc (t := ⟨3, ⟨#[]⟩, [], dv⟩) hrep (Row.nil _ _ _) hgrow hat5 hown5, hbw2.out.grown hgrow hbw2.out.size (fun k hk => (hown.lt k hk).1)⟩
      · have hgti : decide ((a : Int) < (s.size : Int)) = false := decide_eq_false (by omega)
        obtain rfl : a = s.size := by omega
        rw [piece_nil] at hv2
        go_wp2_with fail
        go_ret
        exact ⟨_, rfl, by rw [hv2.out]; show Toks wr wo.heap.size _ (acc ++ []); rw [List.append_nil]; exact hl, hbw⟩
end Go.Proofs.YteefodibpjgicaaGreat

namespace Go.Proofs.YteefodibpjgicaaGreat
open Go.RowKit
theorem glo_of {w : World} (h : w.ShapedOpen Tryz.prog) : Glo w := Tryz.laysM145.s1_3 w h
theorem Sl.take8 {w : World} {a : Option Addr} {n cap : Nat} {l : List UInt8} (h : Sl w (.slice a n cap) (u8s l)) (k : Nat) (hk : k ≤ n) : Sl w (.slice a k cap) (u8s (l.take k)) := by
  obtain ⟨a', cap', e, h2, h3, h4, h5⟩ := h
  rw [u8s_length] at *
  cases e
  have hl : (u8s (l.take k)).length = k := by rw [u8s_length, List.length_take]; omega
  refine ⟨a, cap, by rw [hl], by omega, h3, h4, fun hne => ?_⟩
  have hn0 : 0 < k := by
    rcases Nat.eq_zero_or_pos k with h0 | h0
    · subst h0; exact absurd rfl hne
    · exact h0
  obtain ⟨b, off, rfl, hc⟩ := h5 (by
    intro e
    have := congrArg List.length e
    rw [u8s_length] at this
    simp at this
    subst this
    simp at hk
    omega)
  refine ⟨b, off, rfl, fun j hj => ?_⟩
  have hj2 : j < (u8s l).length := by rw [u8s_length]; omega
  rw [hc j hj2]
  congr 1
  have e : u8s (l.take k) = (u8s l).take k := by simp [u8s, Lib.byteCells, List.map_take]
  simp only [e, List.getElem_take]
theorem Sl.len8 {w : World} {v : Value} {l : List UInt8} (h : Sl w v (u8s l)) : ∃ a cap, v = .slice a l.length cap ∧ l.length ≤ cap ∧ cap ≤ 9223372036854775807 := by
  obtain ⟨a, cap, rfl, h2, h3, _, _⟩ := h
  rw [u8s_length] at *
  exact ⟨a, cap, rfl, h2, h3⟩
end Go.Proofs.YteefodibpjgicaaGreat

namespace Go.Proofs.YteefodibpjgicaaGreat
open Go.RowKit
set_option maxHeartbeats 4000000 in
set_option maxRecDepth 100000 in
theorem writeElement {B F g : Nat} {P : List UInt8 → World → Prop} (hp : Puts B F g P) (S : Nat → Prop) (x : Nd) (va vk : Value) (acc : List UInt8) (w w0 : World) (hS : ∀ b, S b → b < B) (hx : RepV S w0 x va vk) (hw : Below B w0 w) (hf : Fit1 x) (hP : P acc w) (hk1 : x.kind = 1)
    (hN : ∀ (acc : List UInt8) (raw : Bool) (W : World), Below B w0 W → P acc W → acc.length + (M4.textB raw x.kids).length ≤ 70368744177664 → Calls Tryz.prog 98 #[vk, .bool raw, .func (.func F) #[] #[.pointer (some ⟨g, 0, none⟩)]] W (PutPost B P (acc ++ M4.textB raw x.kids) W))
    (hl : acc.length + (M4.oneB false x).length ≤ 70368744177664) :
    Calls Tryz.prog 108 #[x.val va vk, .func (.func F) #[] #[.pointer (some ⟨g, 0, none⟩)]] w (PutPost B P (acc ++ M4.oneB false x) w) := by
  obtain ⟨a1, e1, hva⟩ := hx.at_.slice
  obtain ⟨a2, e2, hvk⟩ := hx.kids.slice
  subst hva hvk
  rw [M4.oneB_1 hk1] at hl ⊢
  cases x with | mk k n ats t ks =>
  have hB := hp.base _ _ hP
  have hb0 : Below w.heap.size w (w.alloc (.cells #[.int .i64 k, .string n, .slice a1 ats.length e1, .string t, .slice a2 ks.length e2] 41)) := (Below.refl _ _).alloc (Nat.le_refl _) _
  have hbx := Box.new w 41 [.int .i64 k, .string n, .slice a1 ats.length e1, .string t, .slice a2 ks.length e2]
  have hP0 := hp.stab _ _ _ hP hb0
  have hk0 := Lib.hid (Kw.of_below hb0 hB)
  rw [List.length_append, List.length_append] at hl
  have hBeg := Lib.hid (fun (W : World) (hW : Below B w W) (hP : P acc W) => writeBegin hp S (.mk k n ats t ks) (.slice a1 ats.length e1) (.slice a2 ks.length e2) acc W w0 hS hx (hw.trans hW) hf hP (by omega))
  have hEnd := Lib.hid (fun (acc : List UInt8) (W : World) (hP : P acc W) (hl : acc.length + (M4.endB n).length ≤ 70368744177664) => writeEnd hp (.mk k n ats t ks) (.slice a1 ats.length e1) (.slice a2 ks.length e2) acc W ⟨_, _, _, rfl⟩ ⟨_, _, _, rfl⟩ hP hl)
  replace hN := Lib.hid hN
  replace hw := Lib.hid hw
  clear hx hf hk1
  simp only [Nd.kind, Nd.name, Nd.text, Nd.attrs, Nd.kids, Nd.val] at *
  go_enter Tryz.func108, Tryz.ntmps108
  go_wp2_with (fail)
  refine (hBeg.out _ (hb0.mono hB) hP0).mono ?_
  rintro e w1 ⟨rfl, hP1, hk1⟩
  have hb1 := hk1.box hbx (.inl rfl)
  have d1 := hb1.cell (i := 1) rfl
  have hka := Lib.hid (hk0.out.trans hk1)
  clear hbx hP0 hb0 hBeg hk1
  go_wp2_with (fail)
  refine (domVoid _ _).mono ?_
  rintro e w1 ⟨rfl, rfl⟩
  cases hvd : M3.voidB n.data.toList
  · rw [hvd] at hl
    rw [M4.innerB_no] at hl
    have d4 := hb1.cell (i := 4) rfl
    have hkd : Below w1.heap.size w1 w1.drew := (Below.refl _ w1).drew
    have hPd := hp.stab _ _ _ hP1 hkd
    have hkd2 := Lib.hid (hka.out.trans (Kw.of_below hkd (hp.base _ _ hP1)))
    have hNN := Lib.hid (hN.out (acc ++ M4.headB n ats) (M3.rawB n.data.toList) w1.drew (hw.out.trans hkd2.out.low) hPd (by rw [List.length_append]; omega))
    have hbd := hb1.below hkd hb1.lt
    replace hbd := Lib.hid hbd
    replace hPd := Lib.hid hPd
    clear hkd
    go_wp2_with (fail)
    refine wp_region_still_tail 6 (by kernel_rfl) (by kernel_rfl) ?_
    simp only [List.take_succ_cons, List.take_zero, List.drop_succ_cons, List.drop_zero]
    repeat still_step
    still_call (domRaw _ _)
    repeat still_step
    refine wpStill_nil ?_
    change wpList _ _ _ _ _ w1.drew
    go_wp2_with (fail)
    refine hNN.out.mono ?_
    rintro e w2 ⟨rfl, hP2, hk2⟩
    have hb2 := hk2.box hbd.out (.inl rfl)
    have f0 := hb2.cell (i := 0) rfl
    have f1 := hb2.cell (i := 1) rfl
    have f2 := hb2.cell (i := 2) rfl
    have f3 := hb2.cell (i := 3) rfl
    have f4 := hb2.cell (i := 4) rfl
    clear hNN d1 d4 hb1
    go_wp2_with (fail)
    refine (hEnd.out _ _ hP2 (by simp only [List.length_append]; omega)).mono ?_
    rintro e w3 ⟨rfl, hP3, hk3⟩
    have hab : Hid (acc ++ M4.headB n ats ++ M4.textB (M3.rawB n.data.toList) ks ++ M4.endB n = acc ++ (M4.headB n ats ++ (M4.innerB false (M3.rawB n.data.toList) ks ++ M4.endB n))) := by show _ = _; rw [M4.innerB_no]; simp
    have hP4 := Lib.hid (hab.out ▸ hP3 : P (acc ++ (M4.headB n ats ++ (M4.innerB false (M3.rawB n.data.toList) ks ++ M4.endB n))) w3)
    clear hP3 hab
    go_wp2_with (fail)
    go_end0
    exact ⟨rfl, by rw [hvd]; exact hP4.out, (hkd2.out.trans hk2).trans hk3⟩
  · rw [hvd] at hl
    have f0 := hb1.cell (i := 0) rfl
    have f2 := hb1.cell (i := 2) rfl
    have f3 := hb1.cell (i := 3) rfl
    have f4 := hb1.cell (i := 4) rfl
    rw [M4.innerB_yes] at hl ⊢
    go_wp2_with (fail)
    refine (hEnd.out _ _ hP1 (by simp only [List.length_append, List.length_nil] at *; omega)).mono ?_
    rintro e w3 ⟨rfl, hP3, hk3⟩
    have hab : Hid (acc ++ M4.headB n ats ++ M4.endB n = acc ++ (M4.headB n ats ++ ([] ++ M4.endB n))) := by show _ = _; simp
    have hP4 := Lib.hid (hab.out ▸ hP3 : P (acc ++ (M4.headB n ats ++ ([] ++ M4.endB n))) w3)
    clear hP3 hab
    go_wp2_with (fail)
    go_end0
    exact ⟨rfl, by rw [hvd, M4.innerB_yes]; exact hP4.out, hka.out.trans hk3⟩
theorem fitN_mem {x : Nd} {l : List Nd} (h : FitN l) (hx : x ∈ l) : Fit1 x ∧ FitN x.kids := by
  induction l with
  | nil => cases hx
  | cons y r ih =>
    obtain ⟨h1, h2, h3⟩ := fitN_cons.1 h
    rcases List.mem_cons.1 hx with rfl | hx
    · exact ⟨h1, h2⟩
    · exact ih h3 hx
theorem RepN.look {S : Nat → Prop} {w w' : World} {a : Option Addr} {n cap : Nat} {l : List Nd} {B : Nat} (h : RepN S w (.slice a n cap) l) (hS : ∀ b, S b → b < B) (hw : Below B w w') (i : Nat) (hi : i < l.length) :
    ∃ b off va vk, a = some ⟨b, off, none⟩ ∧ S b ∧ w'.cell? ⟨b, off + i * 5, none⟩ = some (.int .i64 l[i].kind) ∧ w'.cell? ⟨b, off + i * 5 + 1, none⟩ = some (.string l[i].name) ∧ w'.cell? ⟨b, off + i * 5 + 2, none⟩ = some va ∧
      w'.cell? ⟨b, off + i * 5 + 3, none⟩ = some (.string l[i].text) ∧ w'.cell? ⟨b, off + i * 5 + 4, none⟩ = some vk ∧ RepV S w l[i] va vk := by
  obtain ⟨b, off, va, vk, h1, h2, c0, c1, c2, c3, c4, h3⟩ := h.at_ i hi
  have hb := hS b h2
  have k := fun o => hw.cell (p := ⟨b, o, none⟩) hb
  exact ⟨b, off, va, vk, h1, h2, (k _).trans c0, (k _).trans c1, (k _).trans c2, (k _).trans c3, (k _).trans c4, h3⟩
set_option maxHeartbeats 4000000 in
set_option maxRecDepth 100000 in
theorem writeNodes {B F g : Nat} {P : List UInt8 → World → Prop} (hp : Puts B F g P) (w0 : World) (S : Nat → Prop) (hS : ∀ b, S b → b < B) (wt : Nat) : ∀ (v : Value) (l : List Nd) (raw : Bool) (acc : List UInt8) (w : World), M3.weight l < wt → FitN l → RepN S w0 v l → Below B w0 w → P acc w → acc.length + (M4.textB raw l).length ≤ 70368744177664 →
    Calls Tryz.prog 98 #[v, .bool raw, .func (.func F) #[] #[.pointer (some ⟨g, 0, none⟩)]] w (PutPost B P (acc ++ M4.textB raw l) w) := by
  induction wt with
  | zero => intro v l raw acc w h; omega
  | succ wt ih =>
  intro v l raw acc w hwt hfit hr hw hP hl
  obtain ⟨a, cap, rfl⟩ := hr.slice
  obtain ⟨_, hlc, hcm⟩ := hr.len
  have hE := hp.enter
  have hB := hp.base _ _ hP
  replace ih := Lib.hid ih
  replace hfit := Lib.hid hfit
  replace hw := Lib.hid hw
  have h0 : P (acc ++ M4.textB raw (l.take 0)) w := by rw [List.take_zero, M4.textB_nil, List.append_nil]; exact hP
  go_enter Tryz.func98, Tryz.ntmps98
  go_wp2_with fail
  go_loopw [7, 10] (fun _ u10 wr => ∃ i : Nat, i ≤ l.length ∧ u10 = .int .i64 (i : Int) ∧ P (acc ++ M4.textB raw (l.take i)) wr ∧ Kw B w wr) (fun _ u10 _ => l.length - (intOf u10).toNat)
  case atStart => exact ⟨0, by omega, rfl, h0, Kw.refl _ _⟩
  case round =>
    obtain ⟨i, hi, rfl, hP3, hk3⟩ := hrel
    by_cases hlt : i < l.length
    · have hrw := hw.out.trans hk3.low
      obtain ⟨b, off, va, vk, rfl, hSb, c0, c1, c2, c3, c4, hrv⟩ := hr.look hS hrw i hlt
      have hbl := hS b hSb
      have hz3 := hp.base _ _ hP3
      have hfx := fitN_mem hfit.out (List.getElem_mem hlt)
      have hwk := weight_mem (List.getElem_mem hlt)
      have hpre := M4.textB_prefix raw l (i + 1)
      have htk := M4.textB_take raw l i hlt
      rw [htk] at hpre
      rw [List.length_append] at hpre
      have hl3 : (acc ++ M4.textB raw (l.take i)).length + (M4.oneB raw l[i]).length ≤ 70368744177664 := by rw [List.length_append]; omega
      have hab : Hid (acc ++ M4.textB raw (l.take i) ++ M4.oneB raw l[i] = acc ++ M4.textB raw (l.take (i + 1))) := by show _ = _; rw [htk, List.append_assoc]
      clear hpre htk
      generalize l[i] = x at *
      generalize hA2 : acc ++ M4.textB raw (l.take (i + 1)) = A2 at *
      replace hA2 := Lib.hid hA2
      generalize acc ++ M4.textB raw (l.take i) = A1 at *
      obtain ⟨a1, e1, rfl⟩ := hrv.at_.slice
      obtain ⟨a2, e2, rfl⟩ := hrv.kids.slice
      have bo := (Below.refl _ wr).alloc (Nat.le_refl _) (.cells (x.cells (.slice a1 x.attrs.length e1) (.slice a2 x.kids.length e2)).toArray 41)
      have hP4 := hp.stab _ _ _ hP3 bo
      have hk4 := Lib.hid (hk3.trans (Kw.of_below bo hz3))
      have bx := Box.new wr 41 (x.cells (.slice a1 x.attrs.length e1) (.slice a2 x.kids.length e2))
      have hI0 : (i : Int) < (l.length : Int) := by omega
      have fin : ∀ W, P (A1 ++ M4.oneB raw x) W → P A2 W := fun W h => hab.out ▸ h
      replace fin := Lib.hid fin
      clear hab hP3 hk3
      have hrb := hrw.trans (bo.mono hz3)
      replace hrw := Lib.hid hrw
      by_cases k1 : x.kind = 1
      · have hEl := Lib.hid (writeElement hp S x (.slice a1 x.attrs.length e1) (.slice a2 x.kids.length e2) A1 _ w0 hS hrv hrb hfx.1 hP4 k1 (fun acc raw W hW hPW hlW => ih.out _ _ raw acc W (by omega) hfx.2 hrv.kids hW hPW hlW) (by rw [M4.oneB_1 k1] at hl3 ⊢; exact hl3))
        have fin2 := Lib.hid (fun W (h : P (A1 ++ M4.oneB false x) W) => fin.out W (by rw [M4.oneB_1 k1] at h ⊢; exact h))
        have k1b : (x.kind == 1) = true := by simpa using k1
        replace k1 := Lib.hid k1
        clear fin hrb
        go_wp2_with fail
        refine hEl.out.mono ?_
        rintro e w2 ⟨rfl, hP5, hk5⟩
        have hP6 := Lib.hid (fin2.out _ hP5)
        go_wp2_with fail
        go_roundw
        case rel => exact ⟨i + 1, by omega, by go_num, by rw [hA2.out]; exact hP6.out, hk4.out.trans hk5⟩
        case measure => exact wr_meas hlt
      have k1b : (x.kind == 1) = false := by simpa using k1
      by_cases k2 : x.kind = 2
      · have hsz := hfx.1.2.1
        rw [M4.oneB_2 k2] at hl3
        have hTx := Lib.hid (writeText hp x.text raw A1 _ hP4 (by omega) hl3)
        have fin2 := Lib.hid (fun W (h : P (A1 ++ M4.charsB raw x.text) W) => fin.out W (by rw [M4.oneB_2 k2]; exact h))
        have k2b : (x.kind == 2) = true := by simpa using k2
        replace k2 := Lib.hid k2
        clear fin hrb
        go_wp2_with fail
        refine hTx.out.mono ?_
        rintro e w2 ⟨rfl, hP5, hk5⟩
        have hP6 := Lib.hid (fin2.out _ hP5)
        go_wp2_with fail
        go_roundw
        case rel => exact ⟨i + 1, by omega, by go_num, by rw [hA2.out]; exact hP6.out, hk4.out.trans hk5⟩
        case measure => exact wr_meas hlt
      have k2b : (x.kind == 2) = false := by simpa using k2
      by_cases k3 : x.kind = 3
      · have hsz := hfx.1.2.1
        rw [M4.oneB_3 k3, M4.commB_len] at hl3
        have fin2 := Lib.hid (fun W (h : P (A1 ++ (⟨#[60, 33, 45, 45]⟩ : ByteArray).data.toList ++ x.text.data.toList ++ (⟨#[45, 45, 62]⟩ : ByteArray).data.toList) W) => fin.out W (by rw [M4.oneB_3 k3, M4.commB]; simpa using h))
        have k3b : (x.kind == 3) = true := by simpa using k3
        replace k3 := Lib.hid k3
        clear fin hrb
        go_wp2_with fail
        refine (hp.call A1 ⟨#[60, 33, 45, 45]⟩ _ hP4 (by show A1.length + 4 ≤ _; omega)).mono ?_
        rintro e w2 ⟨rfl, hP5, hk5⟩
        have bx1 := hk5.box bx (.inl rfl)
        have d3 := bx1.cell (i := 3) rfl
        clear bx c0 c1 c2 c3 c4
        go_wp2_with fail
        refine (hp.call _ x.text _ hP5 (by rw [List.length_append]; show A1.length + 4 + x.text.size ≤ _; omega)).mono ?_
        rintro e w3 ⟨rfl, hP6, hk6⟩
        go_wp2_with fail
        refine (hp.call _ ⟨#[45, 45, 62]⟩ _ hP6 (by rw [List.length_append, List.length_append]; show A1.length + 4 + x.text.size + 3 ≤ _; omega)).mono ?_
        rintro e w4 ⟨rfl, hP7, hk7⟩
        have hP8 := Lib.hid (fin2.out _ hP7)
        clear hP7
        go_wp2_with fail
        go_roundw
        case rel => exact ⟨i + 1, by omega, by go_num, by rw [hA2.out]; exact hP8.out, ((hk4.out.trans hk5).trans hk6).trans hk7⟩
        case measure => exact wr_meas hlt
      · have k3b : (x.kind == 3) = false := by simpa using k3
        have hP5 := Lib.hid (fin.out _ (by rw [M4.oneB_4 k1 k2 k3, List.append_nil]; exact hP4))
        replace k1 := Lib.hid k1
        replace k2 := Lib.hid k2
        replace k3 := Lib.hid k3
        clear fin hrb
        go_wp2_with fail
        go_roundw
        case rel => exact ⟨i + 1, by omega, by go_num, by rw [hA2.out]; exact hP5.out, hk4.out⟩
        case measure => exact wr_meas hlt
    · obtain rfl : i = l.length := by omega
      rw [List.take_length] at hP3
      replace hP3 := Lib.hid hP3
      go_wp2_with fail
      go_end0
      exact ⟨rfl, hP3.out, hk3⟩
end Go.Proofs.YteefodibpjgicaaGreat

namespace Go.Proofs.YteefodibpjgicaaGreat
open Go.RowKit Go.Shelf
def PB (b : Nat) (acc : List UInt8) (w : World) : Prop := Lib.IsBuilderF 120 5 b b (u8s acc) w ∧ b ≤ w.heap.size
theorem isBuilderF_below {T e : TypeId} {B b : Nat} {bs : List Value} {w w' : World} (h : Lib.IsBuilderF T e B b bs w) (hb : Below w.heap.size w w') : Lib.IsBuilderF T e B b bs w' := by
  have key : ∀ p, Lib.BuilderAtF T e B b p bs w → Lib.BuilderAtF T e B b p bs w' := by
    rintro p ⟨h1, v, h2, h3, h4⟩
    refine ⟨h1, v, (hb.block b (Array.getElem?_eq_some_iff.1 h2).1).trans h2, ⟨h3.1, ?_⟩, h4⟩
    rcases h3.2 with h5 | ⟨g, cap, cur, fz, hv, hg1, hg2, hg3⟩
    · exact .inl h5
    · exact .inr ⟨g, cap, cur, fz, hv, hg1, (hb.block g (Array.getElem?_eq_some_iff.1 hg2).1).trans hg2, hg3⟩
  exact h.elim (fun x => .inl (key _ x)) (fun x => .inr (key _ x))
theorem kn_of_others {b : Nat} {w w' : World} (h : Below b w w') (k : Lib.OthersKept 5 (some b) w w') (hb : ∃ c fr, w.heap[b]? = some (.cells c 120 fr)) : Kw b w w' := by
  refine ⟨h, fun i c t fr hi ht => k i _ hi ?_ ?_⟩
  · intro e
    obtain ⟨c', fr', h'⟩ := hb
    cases e
    rw [h'] at hi
    cases hi
    rcases ht with h | h | h <;> exact absurd h (by decide)
  · intro c' fz e
    cases e
    rcases ht with h | h | h <;> exact absurd h (by decide)
set_option maxHeartbeats 2000000 in
set_option maxRecDepth 100000 in
theorem putsB (b : Nat) : Puts b 105 b (PB b) where
  enter := enters_of Tryz.func105 (by kernel_rfl) rfl
  base := fun acc w h => h.2
  stab := fun acc w w' h hb => ⟨isBuilderF_below h.1 hb, Nat.le_trans h.2 hb.size⟩
  call := by
    intro acc s w h hl
    have hw := Lib.hid (bWriteString b b (u8s acc) s w h.1 (by rw [u8s_length]; omega) h.2)
    have hblk : ∃ c fr, w.heap[b]? = some (.cells c 120 fr) := by
      rcases h.1 with ⟨_, v, hv, _⟩ | ⟨_, v, hv, _⟩ <;> exact ⟨_, _, hv⟩
    have hb := h.2
    replace hblk := Lib.hid hblk
    clear h
    go_enter Tryz.func105, Tryz.ntmps105
    go_wp2_with fail
    refine hw.out.mono ?_
    rintro e w1 ⟨rfl, h1, h2, h3⟩
    have hP : PB b (acc ++ s.data.toList) w1 := ⟨.inr (by rw [u8s_append]; exact h1), Nat.le_trans hb h2.size⟩
    have hK := kn_of_others h2 h3 hblk.out
    replace hP := Lib.hid hP
    go_wp2_with fail
    go_end0
    exact ⟨rfl, hP.out, hK⟩
def TextPost (out : List UInt8) (w : World) (e : Ending) (w' : World) : Prop := e = .returned (.string ⟨out.toArray⟩) ∧ Below w.heap.size w w'
set_option maxHeartbeats 2000000 in
set_option maxRecDepth 100000 in
theorem writeJoined (G h : Nat) (out : List UInt8) (w : World) (hE : ∀ (args : Array Value) (w : World), (callFunc G args).run Tryz.prog w = .ok (.enter G args) w)
    (hG : ∀ w1, Below w.heap.size w w1 → PB w.heap.size [] w1 → Calls Tryz.prog G #[.func (.func 105) #[] #[.pointer (some ⟨w.heap.size, 0, none⟩)], .pointer (some ⟨h, 0, none⟩)] w1 (PutPost w.heap.size (PB w.heap.size) out w1)) :
    Calls Tryz.prog 96 #[.func (.func G) #[] #[.pointer (some ⟨h, 0, none⟩)]] w (TextPost out w) := by
  have b0 : Below w.heap.size w (w.alloc (.cells #[.pointer none, .slice none 0 0] 120)) := (Below.refl _ w).alloc (Nat.le_refl _) _
  have h0 : PB w.heap.size [] (w.alloc (.cells #[.pointer none, .slice none 0 0] 120)) := ⟨Lib.IsBuilderF.of (Lib.fresh_isBuilder 120 5 w), by simp⟩
  have hG1 := Lib.hid (hG _ b0 h0)
  replace b0 := Lib.hid b0
  clear hG h0
  go_enter Tryz.func96, Tryz.ntmps96
  go_wp2_with fail
  refine hG1.out.mono ?_
  rintro e w1 ⟨rfl, hP1, hk1⟩
  clear hG1
  go_wp2_with fail
  refine (bString w.heap.size w.heap.size _ _ hP1.1 hP1.2).mono ?_
  rintro e w2 ⟨rfl, _, b1, _⟩
  go_wp2_with fail
  go_ret
  exact ⟨rfl, (b0.out.trans hk1.low).trans b1⟩
set_option maxHeartbeats 2000000 in
set_option maxRecDepth 100000 in
theorem writeText1 {B F g : Nat} {P : List UInt8 → World → Prop} (hp : Puts B F g P) (w0 : World) (S : Nat → Prop) (hS : ∀ b, S b → b < B) (h : Nat) (v : Value) (l : List Nd) (acc : List UInt8) (w : World) (hc : w.cell? ⟨h, 0, none⟩ = some v) (hf : FitN l) (hr : RepN S w0 v l) (hw : Below B w0 w) (hP : P acc w) (hl : acc.length + (M4.textB false l).length ≤ 70368744177664) :
    Calls Tryz.prog 97 #[.func (.func F) #[] #[.pointer (some ⟨g, 0, none⟩)], .pointer (some ⟨h, 0, none⟩)] w (PutPost B P (acc ++ M4.textB false l) w) := by
  have hN := Lib.hid (writeNodes hp w0 S hS (M3.weight l + 1) _ l false acc w (by omega) hf hr hw hP hl)
  obtain ⟨a, cap, rfl⟩ := hr.slice
  clear hP hw
  go_enter Tryz.func97, Tryz.ntmps97
  go_wp2_with fail
  refine hN.out.mono ?_
  rintro e w2 ⟨rfl, hP2, hk2⟩
  replace hP2 := Lib.hid hP2
  go_wp2_with fail
  go_end0
  exact ⟨rfl, hP2.out, hk2⟩
set_option maxHeartbeats 2000000 in
set_option maxRecDepth 100000 in
theorem writeTextOf (S : Nat → Prop) (v : Value) (l : List Nd) (w : World) (hS : ∀ b, S b → b < w.heap.size) (hr : RepN S w v l) (hf : FitN l) (hl : (M4.textB false l).length ≤ 70368744177664) :
    Calls Tryz.prog 78 #[v] w (TextPost (M4.textB false l) w) := by
  obtain ⟨a, cap, rfl⟩ := hr.slice
  have b0 : Below w.heap.size w (w.alloc (.cells #[.slice a l.length cap] 25)) := (Below.refl _ w).alloc (Nat.le_refl _) _
  have hJ := Lib.hid (writeJoined 97 w.heap.size (M4.textB false l) (w.alloc (.cells #[.slice a l.length cap] 25)) (enters_of Tryz.func97 (by kernel_rfl) rfl) (fun w1 hb1 hP1 =>
    writeText1 (putsB _) (w.alloc (.cells #[.slice a l.length cap] 25)) S (fun b h => by have := hS b h; simp; omega) w.heap.size _ l [] w1 ((hb1.cell (p := ⟨w.heap.size, 0, none⟩) (by simp)).trans ((Box.new w 25 [.slice a l.length cap]).cell (i := 0) rfl)) hf (hr.keep (fun b h => b0.block b (hS b h))) hb1 hP1 (by simpa using hl)))
  replace b0 := Lib.hid b0
  go_enter Tryz.func78, Tryz.ntmps78
  go_wp2_with fail
  refine hJ.out.mono ?_
  rintro e w2 ⟨rfl, hb2⟩
  go_wp2_with fail
  go_ret
  exact ⟨rfl, b0.out.trans (hb2.mono (by simp))⟩
end Go.Proofs.YteefodibpjgicaaGreat

namespace Go.Proofs.YteefodibpjgicaaGreat
open Go.RowKit
theorem TokR.ofT {w : World} {B : Nat} {v : Value} {l : List Tok} (h : Toks w B v l) : TokR (fun b => B ≤ b ∧ b < w.heap.size) w v l := by
  obtain ⟨xs, h1, h2⟩ := h.rows
  exact ⟨xs, h1, h2⟩
set_option maxHeartbeats 2000000 in
set_option maxRecDepth 100000 in
theorem parTreeNext (S : Nat → Prop) (v : Value) (l : List Nd) (w : World) (hS : ∀ b, S b → b < w.heap.size) (hr : RepN S w v l) (hf : FitN l) (hl : (M4.textB false l).length ≤ 70368744177664) :
    Calls Tryz.prog 55 #[v] w fun e w' => e = .returned (.iface 47 (.string ⟨(M4.textB false l).toArray⟩)) ∧ Below w.heap.size w w' := by
  have hT := Lib.hid (writeTextOf S v l w hS hr hf hl)
  obtain ⟨a, cap, rfl⟩ := hr.slice
  go_enter Tryz.func55, Tryz.ntmps55
  go_wp2_with fail
  refine hT.out.mono ?_
  rintro e w1 ⟨rfl, hb⟩
  go_wp2_with fail
  go_ret
  exact ⟨rfl, hb⟩
set_option maxHeartbeats 2000000 in
set_option maxRecDepth 100000 in
theorem parSourceNext (v : Value) (l : List UInt8) (w : World) (hs : Sl w v (u8s l)) (hl : l.length ≤ 1073741824) :
    Calls Tryz.prog 150 #[v] w fun e w' => e = .returned (.iface 47 (.string (M5.bs (M1.right l)))) ∧ Below w.heap.size w w' := by
  have hT := Lib.hid (utfRight v l w hs hl)
  obtain ⟨a, cap, rfl, -, -⟩ := hs.len8
  clear hs
  go_enter Tryz.func150, Tryz.ntmps150
  go_wp2_with fail
  refine hT.out.mono ?_
  rintro e w1 ⟨rfl, hb⟩
  go_wp2_with fail
  go_ret
  exact ⟨rfl, hb⟩
set_option maxHeartbeats 2000000 in
set_option maxRecDepth 100000 in
theorem parRightNext (s : ByteArray) (w : World) (hg : Glo w) (hs : s.size ≤ 1073741824) :
    Calls Tryz.prog 155 #[.string s] w fun e w' => ∃ v, e = .returned (.iface 161 v) ∧ Toks w' w.heap.size v (M5.tokens s.data.toList) ∧ Below w.heap.size w w' := by
  have hT := Lib.hid (tokTokens s w hg hs)
  go_enter Tryz.func155, Tryz.ntmps155
  go_wp2_with fail
  refine hT.out.mono ?_
  rintro e w1 ⟨v, rfl, hl, hb⟩
  obtain ⟨a, cap, rfl⟩ := hl.slice
  go_wp2_with fail
  go_ret
  exact ⟨_, rfl, hl, hb⟩
set_option maxHeartbeats 2000000 in
set_option maxRecDepth 100000 in
theorem parTokensNext (S : Nat → Prop) (v : Value) (l : List Tok) (w : World) (hS : ∀ b, S b → b < w.heap.size) (hr : TokR S w v l) (hf : FitL l) :
    Calls Tryz.prog 202 #[v] w fun e w' => ∃ v', e = .returned (.iface 44 v') ∧ Fresh w' w.heap.size v' (M7.tree l) ∧ Below w.heap.size w w' := by
  have hT := Lib.hid (bTree S v l w hS hr hf)
  obtain ⟨a, cap, rfl⟩ := hr.slice
  go_enter Tryz.func202, Tryz.ntmps202
  go_wp2_with fail
  refine hT.out.mono ?_
  rintro e w1 ⟨v', rfl, hl, hb⟩
  obtain ⟨a, cap, rfl⟩ := hl.rep.slice
  go_wp2_with fail
  go_ret
  exact ⟨_, rfl, hl, hb⟩
theorem as_source (v : Value) (w : World) : (Instr.typeAssert (.iface 46 v) 57 44 true).run Tryz.prog w = .ok (.tuple #[.slice none 0 0, .bool false]) w := by kernel_rfl
theorem as_right (v : Value) (w : World) : (Instr.typeAssert (.iface 47 v) 57 44 true).run Tryz.prog w = .ok (.tuple #[.slice none 0 0, .bool false]) w := by kernel_rfl
theorem as_tokens (v : Value) (w : World) : (Instr.typeAssert (.iface 161 v) 57 44 true).run Tryz.prog w = .ok (.tuple #[.slice none 0 0, .bool false]) w := by kernel_rfl
theorem as_tree (v : Value) (w : World) : (Instr.typeAssert (.iface 44 v) 57 44 true).run Tryz.prog w = .ok (.tuple #[v, .bool true]) w := by kernel_rfl
theorem as_text (v : Value) (w : World) : (Instr.typeAssert (.iface 47 v) 57 47 false).run Tryz.prog w = .ok v w := by kernel_rfl
theorem in_source (n : Nat) (v : Value) (w : World) : (method (n + 1) 46 v "strainer/parse.next").run Tryz.prog w = .ok (150, v) w := by kernel_rfl
theorem in_right (n : Nat) (v : Value) (w : World) : (method (n + 1) 47 v "strainer/parse.next").run Tryz.prog w = .ok (155, v) w := by kernel_rfl
theorem in_tokens (n : Nat) (v : Value) (w : World) : (method (n + 1) 161 v "strainer/parse.next").run Tryz.prog w = .ok (202, v) w := by kernel_rfl
def St8 (S : Nat → Prop) (w0 wr : World) (L : List Nd) (u : Value) (k : Nat) : Prop :=
  (k = 3 ∧ ∃ v l, u = .iface 46 v ∧ Sl wr v (u8s l) ∧ l.length ≤ 20000 ∧ M7.tree (M5.tokens (M1.right l)) = L) ∨
  (k = 2 ∧ ∃ s : ByteArray, u = .iface 47 (.string s) ∧ s.size ≤ 1073741824 ∧ FitL (M5.tokens s.data.toList) ∧ M7.tree (M5.tokens s.data.toList) = L) ∨
  (k = 1 ∧ ∃ v T, u = .iface 161 v ∧ (∃ B, Toks wr B v T) ∧ FitL T ∧ M7.tree T = L) ∨
  (k = 0 ∧ ∃ v, u = .iface 44 v ∧ RepN (fun b => S b ∨ (w0.heap.size ≤ b ∧ b < wr.heap.size)) wr v L)
set_option maxHeartbeats 4000000 in
set_option maxRecDepth 100000 in
theorem parParsed (S : Nat → Prop) (u : Value) (k : Nat) (L : List Nd) (w : World) (hg : Glo w) (hS : ∀ b, S b → b < w.heap.size) (hu : St8 S w w L u k) :
    Calls Tryz.prog 29 #[u] w (ShrP S L w) := by
  obtain ⟨wo, rfl⟩ : ∃ wo : World, wo = w := ⟨_, rfl⟩
  go_enter Tryz.func29, Tryz.ntmps29
  go_wp2_with fail
  go_loopw [0] (fun u0 wr => ∃ k, St8 S wo wr L u0 k ∧ Below wo.heap.size wo wr) (fun u0 _ => match u0 with | .iface t _ => if t = 46 then 3 else if t = 47 then 2 else if t = 161 then 1 else 0 | _ => 0)
  case atStart => exact ⟨k, hu, Below.refl _ _⟩
  case round =>
    obtain ⟨k, hk, hb⟩ := hrel
    have hz := hb.size
    rcases hk with ⟨-, v, l, rfl, hs, hl, hL⟩ | ⟨-, s, rfl, hs, hfit0, hL⟩ | ⟨-, v, T, rfl, hT, hf, hL⟩ | ⟨-, v, rfl, hr⟩
    · have a1 := as_source v
      have i1 := fun n => in_source n v
      have hC := Lib.hid (parSourceNext v l wr hs (by omega))
      clear hs
      go_wp2_with fail
      refine hC.out.mono ?_
      rintro e w1 ⟨rfl, hb1⟩
      go_wp2_with fail
      go_roundw
      case rel => exact ⟨2, .inr (.inl ⟨rfl, _, rfl, by rw [bs_size]; have := M1.right_len l; omega, by rw [M5.bs_data]; exact (M5.toks_fit _ (by have := M1.right_len l; omega)).1, by rw [M5.bs_data]; exact hL⟩), bt hb hb1⟩
      case measure => exact Nat.lt_of_sub_pos Nat.one_pos
    · have a1 := fun x => as_right x
      have i1 := fun n => in_right n (.string s)
      have hC := Lib.hid (parRightNext s wr (hg.below hb (Nat.le_refl _)) (by omega))
      have hfit := Lib.hid hfit0
      clear hfit0
      go_wp2_with fail
      refine hC.out.mono ?_
      rintro e w1 ⟨v, rfl, hT, hb1⟩
      obtain ⟨a, cap, rfl⟩ := hT.slice
      go_wp2_with fail
      go_roundw
      case rel => exact ⟨1, .inr (.inr (.inl ⟨rfl, _, _, rfl, ⟨_, hT⟩, hfit.out, hL⟩)), bt hb hb1⟩
      case measure => exact Nat.lt_of_sub_pos Nat.one_pos
    · obtain ⟨B, hT⟩ := hT
      have hTR := TokR.ofT hT
      obtain ⟨a, cap, rfl⟩ := hT.slice
      have a1 := fun x => as_tokens x
      have i1 := fun n => in_tokens n (.slice a T.length cap)
      have hC := Lib.hid (parTokensNext _ _ T wr (fun b h => h.2) hTR hf)
      clear hT hTR
      go_wp2_with fail
      refine hC.out.mono ?_
      rintro e w1 ⟨v, rfl, hF, hb1⟩
      have hR := hF.rep
      obtain ⟨a, cap, rfl⟩ := hR.slice
      clear hF
      go_wp2_with fail
      go_roundw
      case rel => exact ⟨0, .inr (.inr (.inr ⟨rfl, _, rfl, by rw [← hL]; exact hR.mono fun b h => .inr ⟨by omega, h.2⟩⟩)), bt hb hb1⟩
      case measure => exact Nat.lt_of_sub_pos Nat.one_pos
    · have a1 := as_tree v
      have hres : ShrP S L wo (.returned v) wr := ⟨v, rfl, hr, hb⟩
      clear hr
      go_wp2_with fail
      go_ret
      exact hres
set_option maxHeartbeats 2000000 in
set_option maxRecDepth 100000 in
theorem parBytes (v : Value) (l : List UInt8) (w : World) (hg : Glo w) (hs : Sl w v (u8s l)) (hl : l.length ≤ 20000) :
    Calls Tryz.prog 11 #[v] w (ShrP (fun _ => False) (M7.tree (M5.tokens (M1.right l))) w) := by
  have hP := Lib.hid (parParsed (fun _ => False) (.iface 46 v) 3 _ w hg (fun _ h => h.elim) (.inl ⟨rfl, v, l, rfl, hs, hl, rfl⟩))
  obtain ⟨a, cap, rfl, -, -⟩ := hs.len8
  clear hs
  go_enter Tryz.func11, Tryz.ntmps11
  go_wp2_with fail
  refine hP.out.mono ?_
  rintro e w1 ⟨v1, rfl, hr, hb⟩
  have hres : ShrP (fun _ => False) (M7.tree (M5.tokens (M1.right l))) w (.returned v1) w1 := ⟨v1, rfl, hr, hb⟩
  obtain ⟨a1, c1, rfl⟩ := hr.slice
  clear hr
  go_wp2_with fail
  go_ret
  exact hres
def TxtW (out : List UInt8) (w : World) (e : Ending) (w' : World) : Prop := e = .returned (.string ⟨out.toArray⟩) ∧ Below w.heap.size w w'
set_option maxHeartbeats 2000000 in
set_option maxRecDepth 100000 in
theorem parWritten (S : Nat → Prop) (u : Value) (k : Nat) (L : List Nd) (w : World) (hg : Glo w) (hS : ∀ b, S b → b < w.heap.size) (hu : St8 S w w L u k) (hf : FitN L) (hl : (M4.textB false L).length ≤ 70368744177664) :
    Calls Tryz.prog 37 #[u] w (TxtW (M4.textB false L) w) := by
  have hP := Lib.hid (parParsed S u k L w hg hS hu)
  have a1 := fun x => as_text x
  clear hu
  obtain ⟨wo, rfl⟩ : ∃ wo : World, wo = w := ⟨_, rfl⟩
  go_enter Tryz.func37, Tryz.ntmps37
  go_wp2_with fail
  refine hP.out.mono ?_
  rintro e w1 ⟨v1, rfl, hr, hb⟩
  have hz := hb.size
  have hN := Lib.hid (parTreeNext _ v1 L w1 (fun b h => by
    rcases h with h | h
    · have := hS b h; omega
    · exact h.2) hr hf hl)
  obtain ⟨a1', c1, rfl⟩ := hr.slice
  clear hr
  go_wp2_with fail
  refine hN.out.mono ?_
  rintro e w2 ⟨rfl, hb2⟩
  have hb02 := bt hb hb2
  go_wp2_with fail
  go_ret
  exact ⟨rfl, hb02⟩
def again (l : List Nd) : List Nd := if M3.mayE false l = 0 then M7.tree (M5.tokens (M4.textB false l)) else []
set_option maxHeartbeats 4000000 in
set_option maxRecDepth 100000 in
theorem parAgain (S : Nat → Prop) (v : Value) (l : List Nd) (w : World) (hg : Glo w) (hS : ∀ b, S b → b < w.heap.size) (hr : RepN S w v l) (hf : FitN l) (hl : (M4.textB false l).length ≤ 1073741824) (hft : FitL (M5.tokens (M4.textB false l))) :
    Calls Tryz.prog 20 #[v] w (ShrP (fun _ => False) (again l) w) := by
  have hM := Lib.hid (domMay S v l w hS hr hf)
  obtain ⟨wo, rfl⟩ : ∃ wo : World, wo = w := ⟨_, rfl⟩
  have hW := Lib.hid (fun W (hb : Below wo.heap.size wo W) => parWritten S (.iface 44 v) 0 l W (hg.below hb (Nat.le_refl _)) (fun b h => by have := hS b h; have := hb.size; omega) (.inr (.inr (.inr ⟨rfl, v, rfl, (hr.below hS hb).mono fun b h => .inl h⟩))) hf (by omega))
  have hP := Lib.hid (fun W (hb : Below wo.heap.size wo W) => parParsed (fun _ => False) (.iface 47 (.string (M5.bs (M4.textB false l)))) 2 (M7.tree (M5.tokens (M4.textB false l))) W (hg.below hb (Nat.le_refl _)) (fun _ h => h.elim) (.inr (.inl ⟨rfl, _, rfl, by rw [bs_size]; exact hl, by rw [M5.bs_data]; exact hft, by rw [M5.bs_data]⟩)))
  obtain ⟨a, cap, rfl⟩ := hr.slice
  clear hr hl
  by_cases hm : M3.mayE false l = 0
  · rw [show again l = M7.tree (M5.tokens (M4.textB false l)) from if_pos hm]
    rw [hm] at hM
    go_enter Tryz.func20, Tryz.ntmps20
    go_wp2_with fail
    refine hM.out.mono ?_
    rintro e w1 ⟨rfl, hb⟩
    have hW1 := Lib.hid (hW.out _ hb)
    clear hW
    go_wp2_with fail
    refine hW1.out.mono ?_
    rintro e w2 ⟨rfl, hb2⟩
    have hb02 := bt hb hb2
    have hP1 := Lib.hid (hP.out _ hb02)
    clear hP
    go_wp2_with fail
    refine hP1.out.mono ?_
    rintro e w3 ⟨v3, rfl, hr3, hb3⟩
    have hz2 := hb02.size
    have hres : Hid (ShrP (fun _ => False) (M7.tree (M5.tokens (M4.textB false l))) wo (.returned v3) w3) := ⟨v3, rfl, hr3.mono fun b h => h.elim (fun h => h.elim) (fun h => .inr ⟨by omega, h.2⟩), bt hb02 hb3⟩
    obtain ⟨a3, c3, rfl⟩ := hr3.slice
    clear hr3
    go_wp2_with fail
    go_ret
    exact hres.out
  · rw [show again l = [] from if_neg hm]
    go_enter Tryz.func20, Tryz.ntmps20
    go_wp2_with fail
    refine hM.out.mono ?_
    rintro e w1 ⟨rfl, hb⟩
    have h0 : decide (M3.mayE false l ≠ 0) = true := decide_eq_true hm
    clear hW hP
    go_wp2_with fail
    go_ret
    exact ⟨_, rfl, RepN.nil _ _, hb⟩
end Go.Proofs.YteefodibpjgicaaGreat
