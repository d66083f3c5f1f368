/- strings.ContainsAny at the seven signs; attributes' names; the reference's names. -/
import Derived.Test.YtjelmpajphajfaaDom2
namespace Go.Proofs.Ytjelmpajphajfaa
open Go.RowKit

def AnyPost (l : List UInt8) (w : World) (e : Ending) (w' : World) : Prop := ∃ z : Int, e = .returned (.int .i64 z) ∧ decide (0 ≤ z) = l.any M3.badB ∧ Below w.heap.size w w'

theorem zero86 : ∀ w, (zeroValue 104).run Try.prog w = .ok (.agg (Array.replicate 256 (.bool false))) w := by
  intro w; kernel_rfl

set_option maxHeartbeats 1000000 in
theorem useASCII (n : Nat) (w : World) (h : n ≤ 8) : Calls Try.prog 105 #[.int .i64 (n : Int)] w fun e w' => e = .returned (.bool false) ∧ w = w' := by
  have hd : decide (8 < (n : Int)) = false := decide_eq_false (by omega)
  go_enter Try.func105, Try.ntmps105
  go_wp2
  go_ret
  exact ⟨rfl, rfl⟩

set_option maxHeartbeats 2000000 in
set_option maxRecDepth 100000 in
theorem indexAny7_short (s : ByteArray) (w : World) (hs : s.size ≤ 8) :
    Calls Try.prog 103 #[.string s, .string c7] w (AnyPost s.data.toList w) := by
  have hsz : s.size = s.data.toList.length := rfl
  generalize hl : s.data.toList = l at *
  go_enter Try.func103, Try.ntmps103
  go_wp2_with (go_at_call 105; refine (useASCII _ _ (by omega)).mono ?_; rintro e w1 ⟨rfl, rfl⟩)
  go_loopw [] (fun wr => ∃ p : Nat, p ≤ l.length ∧ wr.heap[w.heap.size]? = some (.stringIter s p) ∧ Below w.heap.size w wr ∧ Hid (l.any M3.badB = (l.drop p).any M3.badB)) (fun wr => l.length - wr.iterPos w.heap.size)
  case atStart => exact ⟨0, by omega, World.iter_heap w s 0, (Below.refl _ w).alloc (Nat.le_refl _) _, rfl⟩
  case round =>
    obtain ⟨p, hpl, hit, hbw, hB⟩ := hrel
    have hsz0 : w.heap.size < wr.heap.size := (Array.getElem?_eq_some_iff.1 hit).1
    by_cases hp : p < l.length
    · have hdr : l.drop p = l[p] :: l.drop (p + 1) := List.drop_eq_getElem_cons hp
      have hnx := next_dec (P := Try.prog) wr w.heap.size s p hit (by omega)
      have hle := M1.dec_le (l.drop p) (drop_ne hp)
      have hpos := M1.dec_pos (l.drop p) (drop_ne hp)
      rw [List.length_drop] at hle
      have hok := M1.runes_ok _ (l.drop p) (Nat.le_refl _) _ (by rw [M1.runes_step _ (drop_ne hp)]; exact List.mem_cons_self)
      unfold M1.okRune at hok
      have hskip := M3.any_skip l[p] (l.drop (p + 1))
      have hlo := M2.dec_lo l[p] (l.drop (p + 1))
      have hhi := M2.dec_hi l[p] (l.drop (p + 1))
      have hst : (l.drop p).any M3.badB = (M3.badB l[p] || (l.drop (p + 1)).any M3.badB) := by rw [hdr]; rfl
      rw [← hdr] at hskip hlo hhi
      rw [hl] at hnx
      generalize l[p] = c at *
      have hd2 := fun n => List.drop_drop (i := n) (j := p) (l := l)
      replace hd2 := Lib.hid hd2
      generalize M1.dec (l.drop p) = rw_ at *
      obtain ⟨r, wd⟩ := rw_
      simp only at hnx hhi hle hpos hok hskip
      have hbw1 := Lib.below_iterAt hbw (Nat.le_refl _) s (p + wd)
      have hit1 := Lib.iterAt_heap wr w.heap.size s p (p + wd) hit
      generalize wr.iterAt w.heap.size s (p + wd) = w1 at *
      have hsz1 : w.heap.size < w1.heap.size := (Array.getElem?_eq_some_iff.1 hit1).1
      clear hdr hl
      replace hst := Lib.hid (hB.out.trans hst)
      have hir := Lib.hid (fun W => indexRune7 (r : Int) W (by omega) (by omega) (by omega))
      rcases Nat.lt_or_ge c.toNat 128 with h1 | h1
      · have hrw := hlo h1
        simp only [Prod.mk.injEq] at hrw
        obtain ⟨rfl, rfl⟩ := hrw
        have hcc : (decide ((c.toNat : Int) < 128) && M3.badB (c.toNat : Int).toNat.toUInt8) = M3.badB c := by
          rw [decide_eq_true (by omega), Bool.true_and]; simp
        replace hcc := Lib.hid hcc
        clear hlo hhi hskip
        cases hbad : M3.badB c
        · rw [hbad, Bool.false_or] at hst
          rw [hbad] at hcc
          go_wp2_with fail
          refine (hir.out _).mono ?_
          rintro e w2 ⟨z, rfl, hz, hb2⟩
          rw [hcc.out] at hz
          have hz2 : z < 0 := by have := of_decide_eq_false hz; omega
          clear hz
          have hit2 := (hb2.block w.heap.size hsz1).trans hit1
          have hbw2 := hbw1.trans (hb2.mono (by omega))
          go_wp2
          go_roundw
          case rel => exact ⟨p + 1, by omega, hit2, hbw2, hst⟩
          case measure => rw [iterPos_of hit2, iterPos_of hit]; omega
        · rw [hbad, Bool.true_or] at hst
          rw [hbad] at hcc
          go_wp2_with fail
          refine (hir.out _).mono ?_
          rintro e w2 ⟨z, rfl, hz, hb2⟩
          rw [hcc.out] at hz
          have hz2 : 0 ≤ z := of_decide_eq_true hz
          clear hz
          have hbw2 := hbw1.trans (hb2.mono (by omega))
          go_wp2
          go_ret
          exact ⟨_, rfl, by rw [hst.out]; exact decide_eq_true (by omega), hbw2⟩
      · replace hhi := hhi h1
        replace hskip := Lib.hid ((hB.out.trans (hskip h1)).trans (by rw [hd2.out]))
        clear hlo hst hB
        go_wp2_with fail
        refine (hir.out _).mono ?_
        rintro e w2 ⟨z, rfl, hz, hb2⟩
        rw [decide_eq_false (by omega : ¬ (r : Int) < 128), Bool.false_and] at hz
        have hz2 : z < 0 := by have := of_decide_eq_false hz; omega
        clear hz
        have hit2 := (hb2.block w.heap.size hsz1).trans hit1
        have hbw2 := hbw1.trans (hb2.mono (by omega))
        go_wp2
        go_roundw
        case rel => exact ⟨p + wd, by omega, hit2, hbw2, hskip⟩
        case measure => rw [iterPos_of hit2, iterPos_of hit]; omega
    · have hnx := fun ty => Lib.run_next_end_at (P := Try.prog) wr w.heap.size s p ty hit (by omega)
      go_wp2
      go_ret
      exact ⟨_, rfl, by rw [hB.out, List.drop_of_length_le (by omega)]; rfl, hbw⟩

theorem indexAny7 (s : ByteArray) (w : World) (hs : s.size < 4294967281) :
    Calls Try.prog 103 #[.string s, .string c7] w (AnyPost s.data.toList w) := by
  by_cases h : s.size ≤ 8
  · exact indexAny7_short s w h
  · exact (Try.strings_IndexAny_long zero86 s c7 w (by decide) (by omega) hs (by decide) (by intro j b hb; match j, hb with | 0, hb | 1, hb | 2, hb | 3, hb | 4, hb | 5, hb | 6, hb => cases hb; decide)).mono fun e w' ⟨h1, h2⟩ =>
      ⟨_, h1, M3.indexAny_bad _, by rw [h2]; exact ((Below.refl _ w).alloc (Nat.le_refl _) _).alloc (by simp) _⟩

set_option maxHeartbeats 1000000 in
theorem containsAny7 (s : ByteArray) (w : World) (hs : s.size < 4294967281) :
    Calls Try.prog 100 #[.string s, .string c7] w fun e w' => e = .returned (.bool (s.data.toList.any M3.badB)) ∧ Below w.heap.size w w' := by
  have h := Lib.hid (fun W => indexAny7 s W hs)
  go_enter Try.func100, Try.ntmps100
  go_wp2_with fail
  refine (h.out _).mono ?_
  rintro e w1 ⟨z, rfl, hz, hb⟩
  replace hz := Lib.hid hz
  go_wp2
  go_ret
  exact ⟨by rw [← hz.out]; rfl, hb⟩

set_option maxHeartbeats 2000000 in
set_option maxRecDepth 100000 in
theorem domAttributed (s : ByteArray) (w : World) (hs : s.size ≤ 268435456) :
    Calls Try.prog 95 #[.string s] w fun e w' => e = .returned (.bool (M3.attributedB s.data.toList)) ∧ Below w.heap.size w w' := by
  have hS := Lib.hid hs
  have hI := Lib.hid (fun W => utfIs s W (by omega))
  have hF := Lib.hid (fun W => utfFold s W (by omega))
  have hC := Lib.hid (fun W => containsAny7 s W (by omega))
  have hf : ((⟨(M1.fold s.data.toList).toArray⟩ : ByteArray).toList == s.toList) = !(s.data.toList.any M3.capB) := by
    rw [← M3.fold_same, Lib.toList_data, Lib.toList_data]
  have hr : Hid (M3.attributedB s.data.toList = (!s.toList.isEmpty && (M1.isB s.data.toList && !(s.data.toList.any M3.capB) && !(s.data.toList.any M3.badB)))) := by
    show _ = _
    rw [Lib.toList_data]; rfl
  generalize (⟨(M1.fold s.data.toList).toArray⟩ : ByteArray) = F at *
  generalize M1.isB s.data.toList = b1 at *
  generalize s.data.toList.any M3.capB = b2 at *
  generalize s.data.toList.any M3.badB = b3 at *
  clear hs
  by_cases he : s.toList = []
  · have he2 : s.toList.isEmpty = true := by rw [he]; rfl
    have hr2 : Hid (M3.attributedB s.data.toList = false) := by
      show _ = _
      rw [hr.out, he2]; rfl
    clear hr hf
    go_enter Try.func95, Try.ntmps95
    go_wp2
    go_ret
    exact ⟨by rw [hr2.out]; rfl, Below.refl _ _⟩
  have he2 : s.toList.isEmpty = false := by cases h : s.toList with | nil => exact absurd h he | cons _ _ => rfl
  rw [he2] at hr
  cases b1
  · go_enter Try.func95, Try.ntmps95
    go_wp2_with fail
    refine (hI.out _).mono ?_
    rintro e w1 ⟨rfl, hb1⟩
    go_wp2
    go_ret
    exact ⟨by rw [hr.out]; rfl, hb1⟩
  cases b2
  · go_enter Try.func95, Try.ntmps95
    go_wp2_with fail
    refine (hI.out _).mono ?_
    rintro e w1 ⟨rfl, hb1⟩
    go_wp2_with fail
    refine (hF.out _).mono ?_
    rintro e w2 ⟨rfl, hb2⟩
    go_wp2_with fail
    refine (hC.out _).mono ?_
    rintro e w3 ⟨rfl, hb3⟩
    go_wp2
    go_ret
    exact ⟨by rw [hr.out]; cases b3 <;> rfl, bt (bt hb1 hb2) hb3⟩
  · go_enter Try.func95, Try.ntmps95
    go_wp2_with fail
    refine (hI.out _).mono ?_
    rintro e w1 ⟨rfl, hb1⟩
    go_wp2_with fail
    refine (hF.out _).mono ?_
    rintro e w2 ⟨rfl, hb2⟩
    go_wp2
    go_ret
    exact ⟨by rw [hr.out]; rfl, bt hb1 hb2⟩

def restB (l : List UInt8) : Bool := !(l.any M3.capB) && !(l.any M3.badB)
theorem restB_drop (s : ByteArray) (i : Nat) (h : i < s.size) : restB (s.data.toList.drop i) = (!(M3.capB s[i]) && !(M3.badB s[i]) && restB (s.data.toList.drop (i + 1))) := by
  have hsz : s.size = s.data.toList.length := rfl
  unfold restB
  rw [List.drop_eq_getElem_cons (show i < s.data.toList.length by omega), List.any_cons, List.any_cons]
  show (!(M3.capB s[i] || _) && !(M3.badB s[i] || _)) = _
  cases M3.capB s[i] <;> cases M3.badB s[i] <;> simp

set_option maxHeartbeats 4000000 in
set_option maxRecDepth 100000 in
theorem ref03Attributed (s : ByteArray) (w : World) (hs : s.size ≤ 268435456) :
    Calls Try.prog 91 #[.string s] w fun e w' => e = .returned (.bool (M3.attributedB s.data.toList)) ∧ Below w.heap.size w w' := by
  have hsz : Hid (s.size = s.data.toList.length) := rfl
  have hr : Hid (M3.attributedB s.data.toList = (!s.data.toList.isEmpty && (M1.isB s.data.toList && restB s.data.toList))) := by
    show _ = _
    unfold M3.attributedB restB
    rw [Bool.and_assoc]
  have hI := ref01Is s w hs
  generalize M1.isB s.data.toList = b1 at *
  go_enter Try.func91, Try.ntmps91
  go_wp2_with fail
  refine hI.mono ?_
  rintro e w1 ⟨rfl, hb1⟩
  go_wp2
  go_loopw [4] (fun u4 wr => ∃ i : Nat, i ≤ s.size ∧ u4 = .int .i64 (i : Int) ∧ w1 = wr ∧ Hid (restB s.data.toList = restB (s.data.toList.drop i))) (fun u4 _ => s.size - (intOf u4).toNat)
  case atStart => exact ⟨0, by omega, rfl, rfl, rfl⟩
  case round =>
    obtain ⟨i, hi, rfl, rfl, hB⟩ := hrel
    by_cases hlt : i < s.size
    · have hst := Lib.hid (hB.out.trans (restB_drop s i hlt))
      clear hB
      have hcap : Hid (M3.capB s[i] = decide (65 ≤ s[i].toNat ∧ s[i].toNat ≤ 90)) := rfl
      have hbad : Hid (M3.badB s[i] = (s[i].toNat == 9 || s[i].toNat == 10 || s[i].toNat == 12 || s[i].toNat == 32 || s[i].toNat == 47 || s[i].toNat == 62 || s[i].toNat == 61)) := rfl
      have hc := s[i].toNat_lt
      generalize hn : s[i].toNat = n at *
      generalize M3.capB s[i] = p at *
      generalize M3.badB s[i] = q at *
      have hno : (p || q) = true → Hid (M3.attributedB s.data.toList = false) := by
        intro h
        show _ = _
        rw [hr.out, hst.out]
        cases p <;> cases q <;> simp_all
      by_cases h1 : 65 ≤ n ∧ n ≤ 90
      · replace hno := hno (by rw [hcap.out, decide_eq_true h1]; rfl)
        clear hcap hbad hst
        obtain ⟨h1, h2⟩ := h1
        go_wp2
        go_ret
        exact ⟨by rw [hno.out]; rfl, hb1⟩
      by_cases h2 : n = 9 ∨ n = 10 ∨ n = 12 ∨ n = 32 ∨ n = 47 ∨ n = 62 ∨ n = 61
      · replace hno := hno (by rw [hbad.out]; simp; omega)
        clear hcap hbad hst h1
        rcases h2 with rfl | rfl | rfl | rfl | rfl | rfl | rfl <;> (go_wp2; go_ret; exact ⟨by rw [hno.out]; rfl, hb1⟩)
      · have hp : p = false := by rw [hcap.out]; exact decide_eq_false h1
        have hq : q = false := by rw [hbad.out]; simp; omega
        clear hno hcap hbad
        subst hp
        subst hq
        have e1 : ((n : Int) == 9) = false := by simp; omega
        have e2 : ((n : Int) == 10) = false := by simp; omega
        have e3 : ((n : Int) == 12) = false := by simp; omega
        have e4 : ((n : Int) == 32) = false := by simp; omega
        have e5 : ((n : Int) == 47) = false := by simp; omega
        have e6 : ((n : Int) == 62) = false := by simp; omega
        have e7 : ((n : Int) == 61) = false := by simp; omega
        clear h2
        by_cases h3 : 65 ≤ n
        · have hd : decide ((n : Int) ≤ 90) = false := decide_eq_false (by omega)
          go_wp2
          go_roundw
          case rel => exact ⟨i + 1, by omega, by go_num, by trivial, by rw [hst.out]; rfl⟩
          case measure => simp [intOf]; omega
        · go_wp2
          go_roundw
          case rel => exact ⟨i + 1, by omega, by go_num, by trivial, by rw [hst.out]; rfl⟩
          case measure => simp [intOf]; omega
    · have h0 : restB (s.data.toList.drop i) = true := by rw [List.drop_of_length_le (by have := hsz.out; omega)]; rfl
      replace hr := Lib.hid ((hr.out).trans (by rw [hB.out, h0]))
      clear h0 hB
      cases b1
      · go_wp2
        go_ret
        exact ⟨by rw [hr.out]; simp, hb1⟩
      · by_cases h0 : 0 < s.size
        · go_wp2
          go_ret
          refine ⟨?_, hb1⟩
          rw [hr.out]
          have : s.data.toList.isEmpty = false := by rw [← Bool.not_eq_true, List.isEmpty_iff]; intro h; have := hsz.out; rw [h, List.length_nil] at this; omega
          rw [this]; simp
        · have h00 : s.size = 0 := by omega
          have : s.data.toList.isEmpty = true := by rw [List.isEmpty_iff]; exact List.eq_nil_of_length_eq_zero (by rw [← hsz.out]; exact h00)
          rw [this] at hr
          clear this h00
          go_wp2
          go_ret
          exact ⟨by rw [hr.out]; rfl, hb1⟩

set_option maxHeartbeats 4000000 in
set_option maxRecDepth 100000 in
theorem ref03Named (s : ByteArray) (w : World) (hs : s.size ≤ 9223372036854775807) :
    Calls Try.prog 90 #[.string s] w fun e w' => e = .returned (.bool (M3.namedB s.data.toList)) ∧ w = w' := by
  have hsz : Hid (s.size = s.data.toList.length) := rfl
  by_cases h0 : s.size = 0
  · have : s.data.toList = [] := List.eq_nil_of_length_eq_zero (by rw [← hsz.out]; exact h0)
    have hr : Hid (M3.namedB s.data.toList = false) := by show _ = _; rw [this]; rfl
    clear this
    go_enter Try.func90, Try.ntmps90
    go_wp2
    go_ret
    exact ⟨by rw [hr.out]; rfl, rfl⟩
  have hz : ((s.size : Int) == 0) = false := by simpa using h0
  have hpos : 0 < s.size := by omega
  have hr : Hid (M3.namedB s.data.toList = (M3.smallB s[0] && (s.data.toList.drop 0).all M3.nameB)) := by
    show _ = _
    have hl := hsz.out
    obtain ⟨c, r, hd⟩ := List.exists_cons_of_ne_nil (show s.data.toList ≠ [] by intro h; rw [h, List.length_nil] at hl; omega)
    have h1 : s[0] = c := by
      show s.data.toList[0]'(by omega) = c
      simp [hd]
    rw [h1, List.drop_zero, hd]
    show (M3.smallB c && r.all M3.nameB) = (M3.smallB c && (M3.nameB c && r.all M3.nameB))
    unfold M3.nameB
    cases M3.smallB c <;> simp
  have hs0 := Lib.hid (fun W => ref03Small s[0] W)
  generalize M3.smallB s[0] = f at *
  go_enter Try.func90, Try.ntmps90
  go_wp2_with fail
  refine (hs0.out _).mono ?_
  rintro e w1 ⟨rfl, hw⟩
  rw [hw]
  clear hw w1
  go_wp2
  go_loopw [4] (fun u4 wr => ∃ i : Nat, i ≤ s.size ∧ u4 = .int .i64 (i : Int) ∧ w = wr ∧ Hid (M3.namedB s.data.toList = (f && (s.data.toList.drop i).all M3.nameB))) (fun u4 _ => s.size - (intOf u4).toNat)
  case atStart => exact ⟨0, by omega, rfl, rfl, hr.out⟩
  case round =>
    obtain ⟨i, hi, rfl, rfl, hB⟩ := hrel
    by_cases hlt : i < s.size
    · have hst : (s.data.toList.drop i).all M3.nameB = (M3.nameB s[i] && (s.data.toList.drop (i + 1)).all M3.nameB) := by
        rw [List.drop_eq_getElem_cons (show i < s.data.toList.length by have := hsz.out; omega), List.all_cons]; rfl
      replace hst := Lib.hid (hB.out.trans (by rw [hst]))
      have hsi := Lib.hid (fun W => ref03Small s[i] W)
      have hnm : Hid (M3.nameB s[i] = (M3.smallB s[i] || decide (s[i].toNat = 45 ∨ (48 ≤ s[i].toNat ∧ s[i].toNat ≤ 57)))) := rfl
      clear hB hr
      generalize M3.smallB s[i] = p at *
      generalize M3.nameB s[i] = q at *
      have hc := s[i].toNat_lt
      cases p
      · by_cases h1 : s[i].toNat = 45 ∨ (48 ≤ s[i].toNat ∧ s[i].toNat ≤ 57)
        · have hq : q = true := by rw [hnm.out, decide_eq_true h1]; rfl
          subst hq
          clear hnm
          rcases h1 with h1 | ⟨h1, h2⟩
          · have e1 : ((s[i].toNat : Int) != 45) = false := by rw [h1]; rfl
            have e2 : decide ((s[i].toNat : Int) < 48) = true := decide_eq_true (by omega)
            clear h1
            go_wp2_with fail
            refine (hsi.out _).mono ?_
            rintro e w1 ⟨rfl, hw⟩
            rw [hw]
            clear hw w1
            go_wp2
            go_roundw
            case rel => exact ⟨i + 1, by omega, by go_num, by trivial, by show _ = _; rw [hst.out]; simp⟩
            case measure => simp [intOf]; omega
          · go_wp2_with fail
            refine (hsi.out _).mono ?_
            rintro e w1 ⟨rfl, hw⟩
            rw [hw]
            clear hw w1
            go_wp2
            go_roundw
            case rel => exact ⟨i + 1, by omega, by go_num, by trivial, by show _ = _; rw [hst.out]; simp⟩
            case measure => simp [intOf]; omega
        · have hq : q = false := by rw [hnm.out, decide_eq_false h1]; rfl
          subst hq
          clear hnm
          have e1 : ((s[i].toNat : Int) != 45) = true := by simp; omega
          have hno : Hid (M3.namedB s.data.toList = false) := by show _ = _; rw [hst.out]; simp
          clear hst
          by_cases h2 : s[i].toNat < 48
          · go_wp2_with fail
            refine (hsi.out _).mono ?_
            rintro e w1 ⟨rfl, hw⟩
            rw [hw]
            clear hw w1
            go_wp2
            go_ret
            exact ⟨by rw [hno.out]; rfl, by trivial⟩
          · have e2 : decide ((s[i].toNat : Int) < 48) = false := decide_eq_false (by omega)
            have e3 : decide (57 < (s[i].toNat : Int)) = true := decide_eq_true (by omega)
            clear h1
            go_wp2_with fail
            refine (hsi.out _).mono ?_
            rintro e w1 ⟨rfl, hw⟩
            rw [hw]
            clear hw w1
            go_wp2
            go_ret
            exact ⟨by rw [hno.out]; rfl, by trivial⟩
      · have hq : q = true := by rw [hnm.out]; rfl
        subst hq
        clear hnm
        go_wp2_with fail
        refine (hsi.out _).mono ?_
        rintro e w1 ⟨rfl, hw⟩
        rw [hw]
        clear hw w1
        go_wp2
        go_roundw
        case rel => exact ⟨i + 1, by omega, by go_num, by trivial, by show _ = _; rw [hst.out]; simp⟩
        case measure => simp [intOf]; omega
    · have h0 : (s.data.toList.drop i).all M3.nameB = true := by rw [List.drop_of_length_le (by have := hsz.out; omega)]; rfl
      have hB2 := Lib.hid (hB.out.trans (by rw [h0, Bool.and_true]))
      clear h0 hB hr
      go_wp2
      go_ret
      exact ⟨by rw [hB2.out]; rfl, by trivial⟩
end Go.Proofs.Ytjelmpajphajfaa
