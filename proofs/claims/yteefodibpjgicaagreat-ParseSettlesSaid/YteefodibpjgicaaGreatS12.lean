/- Texts joined: Math8b, Math8c, Math8d, Math8e, Math8f, Law08m, Par4, Law08s. -/
import Derived.Test.YteefodibpjgicaaGreatRows
import Derived.Test.YteefodibpjgicaaGreatS1
import Derived.Test.YteefodibpjgicaaGreatS2
import Derived.Test.YteefodibpjgicaaGreatS3
import Derived.Test.YteefodibpjgicaaGreatS4
import Derived.Test.YteefodibpjgicaaGreatS5
import Derived.Test.YteefodibpjgicaaGreatS6
import Derived.Test.YteefodibpjgicaaGreatS7
import Derived.Test.YteefodibpjgicaaGreatS8
import Derived.Test.YteefodibpjgicaaGreatS9
import Derived.Test.YteefodibpjgicaaGreatS10
import Derived.Test.YteefodibpjgicaaGreatS11
namespace Go.Proofs.YteefodibpjgicaaGreat
namespace M5
theorem find_skip (w l : List UInt8) (k : Nat) (hk : k ≤ l.length) (h : ∀ i, i < k → w.isPrefixOf (l.drop i) = false) : findL w l = k + findL w (l.drop k) := by
  induction k generalizing l with
  | zero => simp
  | succ k ih =>
    cases l with
    | nil => simp at hk
    | cons c r =>
      have h0 := h 0 (by omega)
      rw [List.drop_zero] at h0
      rw [findL, h0, if_neg Bool.false_ne_true, ih r (by simp at hk; omega) (fun i hi => by have := h (i + 1) (by omega); simpa using this), List.drop_succ_cons]
      omega
theorem find_none {w l : List UInt8} (h : findL w l = l.length) : ∀ i, i < l.length → w.isPrefixOf (l.drop i) = false := by
  induction l with
  | nil => intro i hi; simp at hi
  | cons c r ih =>
    rw [findL] at h
    split at h
    · simp at h
    · rename_i h0
      intro i hi
      cases i with
      | zero => exact Bool.eq_false_iff.2 h0
      | succ i => exact ih (by simp at h; exact h) i (by simpa using hi)
theorem find_here (w z : List UInt8) (hw : w ≠ []) : findL w (w ++ z) = 0 := by
  cases w with
  | nil => exact absurd rfl hw
  | cons c r =>
    rw [List.cons_append, findL, if_pos]
    have : (c :: r).isPrefixOf ((c :: r) ++ z) = true := by simp
    exact this
theorem find_rem (t z : List UInt8) (h : findL [45, 45, 62] t = t.length) : findL [45, 45, 62] (t ++ ([45, 45, 62] ++ z)) = t.length := by
  rw [find_skip _ _ t.length (by simp) (fun i hi => ?_), List.drop_left, find_here _ _ (by simp)]
  · omega
  · have h1 := find_none h i hi
    rw [List.drop_append_of_le_length (by omega)]
    have hl : 0 < (t.drop i).length := by rw [List.length_drop]; omega
    generalize t.drop i = a at *
    match a with
    | [] => simp at hl
    | [c] =>
      simp only [List.cons_append, List.nil_append, List.isPrefixOf]
      simp
    | [c, d] =>
      simp only [List.cons_append, List.nil_append, List.isPrefixOf]
      simp
    | c :: d :: e :: r =>
      simp only [List.cons_append, List.isPrefixOf] at h1 ⊢
      exact h1
theorem upto_rem (t z : List UInt8) (h : findL [45, 45, 62] t = t.length) : uptoR [45, 45, 62] (t ++ ([45, 45, 62] ++ z)) = (t, z) := by
  unfold uptoR
  rw [find_rem t z h, if_pos (by simp)]
  congr 1
  · simp
  · rw [List.drop_append, List.drop_of_length_le (by omega), List.nil_append, Nat.add_sub_cancel_left]
    rfl
theorem comm_written (t : ByteArray) (z : List UInt8) (h : findL [45, 45, 62] t.data.toList = t.data.toList.length) : startsB (M4.commB t ++ z) = true ∧ tagR (M4.commB t ++ z) = (⟨4, ⟨#[]⟩, [], t⟩, z) := by
  have e : M4.commB t ++ z = 60 :: 33 :: 45 :: 45 :: (t.data.toList ++ ([45, 45, 62] ++ z)) := by
    unfold M4.commB
    simp
  have hs : startsB (60 :: 33 :: 45 :: 45 :: (t.data.toList ++ ([45, 45, 62] ++ z))) = true := rfl
  rw [e]
  refine ⟨hs, ?_⟩
  rw [tagR, if_pos hs]
  show (if letterB 33 then _ else if [60, 33, 45, 45].isPrefixOf (60 :: 33 :: 45 :: 45 :: (t.data.toList ++ ([45, 45, 62] ++ z))) then _ else _ : Tok × List UInt8) = _
  rw [if_neg (by decide), if_pos (by simp)]
  show ((⟨4, ⟨#[]⟩, [], bs (uptoR [45, 45, 62] (t.data.toList ++ ([45, 45, 62] ++ z))).1⟩ : Tok), (uptoR [45, 45, 62] (t.data.toList ++ ([45, 45, 62] ++ z))).2) = _
  rw [upto_rem _ _ h, bs_of]
def stopH : List UInt8 → Bool
  | d :: _ => blankB d || d == 47 || d == 62
  | [] => false
theorem ends_step (w : List UInt8) (c : UInt8) (r : List UInt8) : endsL w (c :: r) = if (M1.fold ((c :: r).take w.length) == w && stopH ((c :: r).drop w.length)) = true then some 0 else (endsL w r).map (· + 1) := by
  rw [endsL]
  cases (c :: r).drop w.length <;> rfl
theorem ends_len (w : List UInt8) : ∀ (l : List UInt8) (k : Nat), endsL w l = some k → k + w.length < l.length := by
  intro l
  induction l with
  | nil => intro k h; cases h
  | cons c r ih =>
    intro k h
    rw [ends_step] at h
    by_cases hh : (M1.fold ((c :: r).take w.length) == w && stopH ((c :: r).drop w.length)) = true
    · rw [if_pos hh] at h
      have h : 0 = k := by simpa using h
      subst h
      simp only [Bool.and_eq_true] at hh
      have h2 := hh.2
      cases hd : (c :: r).drop w.length with
      | nil => rw [hd] at h2; cases h2
      | cons d t =>
        have := congrArg List.length hd
        rw [List.length_drop] at this
        simp only [List.length_cons] at this ⊢
        omega
    · rw [if_neg hh] at h
      cases hr : endsL w r with
      | none => rw [hr] at h; cases h
      | some j =>
        rw [hr] at h
        have := ih j hr
        have : j + 1 = k := by simpa using h
        simp only [List.length_cons]
        omega
theorem ends_ext (w : List UInt8) : ∀ (l z : List UInt8) (k : Nat), endsL w l = some k → endsL w (l ++ z) = some k := by
  intro l
  induction l with
  | nil => intro z k h; cases h
  | cons c r ih =>
    intro z k h
    have hl := ends_len w _ _ h
    have ht : ((c :: r) ++ z).take w.length = (c :: r).take w.length := List.take_append_of_le_length (by omega)
    have hd : ((c :: r) ++ z).drop w.length = (c :: r).drop w.length ++ z := List.drop_append_of_le_length (by omega)
    rw [List.cons_append] at ht hd ⊢
    rw [ends_step] at h ⊢
    rw [ht, hd]
    have hm : stopH ((c :: r).drop w.length ++ z) = stopH ((c :: r).drop w.length) := by
      cases hq : (c :: r).drop w.length with
      | nil =>
        have := congrArg List.length hq
        rw [List.length_drop] at this
        simp only [List.length_nil] at this
        omega
      | cons d t => rfl
    rw [hm]
    by_cases hc : (M1.fold ((c :: r).take w.length) == w && stopH ((c :: r).drop w.length)) = true
    · rw [if_pos hc] at h ⊢; exact h
    · rw [if_neg hc] at h ⊢
      cases hr : endsL w r with
      | none => rw [hr] at h; cases h
      | some j =>
        rw [hr] at h
        rw [ih z j hr]
        exact h
theorem ends_here (w z : List UInt8) (hw : M1.fold w = w) (h0 : w ≠ []) : endsL w (w ++ 62 :: z) = some 0 := by
  cases w with
  | nil => exact absurd rfl h0
  | cons c r =>
    rw [List.cons_append, ends_step, if_pos]
    have e1 : (c :: (r ++ 62 :: z)).take (c :: r).length = c :: r := by
      rw [← List.cons_append, List.take_left]
    have e2 : (c :: (r ++ 62 :: z)).drop (c :: r).length = 62 :: z := by
      rw [← List.cons_append, List.drop_left]
    rw [e1, e2, hw]
    simp [stopH]
theorem keep_ne {t : Tok} (h : t.kind ≠ 0) : keepT t = [t] := if_pos h
theorem one_starts {x : Nd} {p : Bool} (z : List UInt8) (h : M3.oneE x p = 0) (hs : M6.remB x = false) (ht : x.kind ≠ 2) : startsB (M4.oneB false x ++ z) = true := by
  rcases M7.one_kinds h with ⟨hk, -, hn, ha, -⟩ | ⟨hk, -⟩ | ⟨hk, -⟩
  · rw [M4.oneB_1 hk, List.append_assoc]
    obtain ⟨a1, a2, -⟩ := names_atts _ _ ha
    exact (head_written x.name x.attrs _ hn ⟨a1, a2⟩).1
  · exact absurd hk ht
  · rw [M4.oneB_3 hk]
    have : findL [45, 45, 62] x.text.data.toList = x.text.data.toList.length := by
      unfold M6.remB M6.hasB at hs
      rw [hk] at hs
      have := findL_le [45, 45, 62] x.text.data.toList
      have : ¬ findL [45, 45, 62] x.text.data.toList < x.text.data.toList.length := by simpa using hs
      omega
    exact (comm_written x.text z this).1
def Tagged (z : List UInt8) : Prop := z = [] ∨ startsB z = true
theorem rest_tagged (r : List Nd) (z : List UInt8) (hz : Tagged z) (hmay : M3.mayE true r = 0) (hall : M6.allB r = true) : Tagged (M4.textB false r ++ z) := by
  cases r with
  | nil => rw [M4.textB_nil]; exact hz
  | cons y r =>
    obtain ⟨m1, -, -⟩ := M7.may_cons hmay
    rw [M6.allB_cons, Bool.and_eq_true] at hall
    have hr : M6.remB y = false := by
      have := hall.1
      unfold M6.oneS at this
      simp only [Bool.and_eq_true, Bool.not_eq_true'] at this
      exact this.1
    rw [M4.textB_cons, List.append_assoc]
    refine .inr (one_starts _ m1 hr ?_)
    intro hk
    rcases M7.one_kinds m1 with h | h | h
    · omega
    · exact absurd h.2.2.2.2 (by simp)
    · omega
theorem text_written (t : List UInt8) (z : List UInt8) (hz : Tagged z) (ht : t ≠ []) : toksR [] (M2.escape false t ++ z) = ⟨3, ⟨#[]⟩, [], bs t⟩ :: toksR [] z := by
  have hne := escape_ne false t ht
  have hp := plainN_upto (M2.escape false t) z (escape_lt false t)
  have hpz : plainN z = 0 := by
    rcases hz with rfl | h
    · rfl
    · exact plainN_yes z h
  rw [hpz, Nat.add_zero] at hp
  have hs : startsB (M2.escape false t ++ z) = false := by
    cases hs : startsB (M2.escape false t ++ z)
    · rfl
    · obtain ⟨u, hu⟩ := starts_head _ hs
      cases he : M2.escape false t with
      | nil => exact absurd he hne
      | cons c r =>
        rw [he, List.cons_append] at hu
        injection hu with h1 h2
        exact absurd h1 (escape_lt false t c (by rw [he]; simp))
  rw [toks_step _ (by intro e; exact hne (List.append_eq_nil_iff.1 e).1) hs, hp, List.take_left, List.drop_left, M2.decode_escape]
theorem toks_nodes (l : List Nd) : ∀ (p : Bool) (z : List UInt8), Tagged z → M6.allB l = true → M3.mayE p l = 0 → toksR [] (M4.textB false l ++ z) = M7.toksN l ++ toksR [] z := by
  induction l using Nd.ind with
  | h0 => intro p z _ _ _; rw [M4.textB_nil, M7.toksN_nil]; rfl
  | h1 k n a t ks r ih1 ih2 =>
    intro p z hz hall hmay
    obtain ⟨m1, m2, m3⟩ := M7.may_cons hmay
    rw [M6.allB_cons, Bool.and_eq_true] at hall
    obtain ⟨a1, a2⟩ := hall
    unfold M6.oneS at a1
    simp only [Bool.and_eq_true, Bool.not_eq_true'] at a1
    obtain ⟨ar, a3, a4⟩ := a1
    rw [M4.textB_cons, M7.toksN_cons, List.append_assoc, List.append_assoc]
    have hrest : toksR [] (M4.textB false r ++ z) = M7.toksN r ++ toksR [] z := ih2 _ z hz a2 m3
    rcases M7.one_kinds m1 with ⟨hk, ht, hn, ha, -⟩ | ⟨hk, hx, -, hne, -⟩ | ⟨hk, hx, -⟩
    · have hk : k = 1 := hk
      have ht : t = ⟨#[]⟩ := ht
      subst hk ht
      obtain ⟨b1, b2, -⟩ := names_atts _ _ ha
      have hA : AttsOk a := ⟨b1, b2⟩
      have hn : M3.namedB n.data.toList = true := hn
      rw [M4.oneB_1 rfl]
      show toksR [] ((M4.headB n a ++ (M4.innerB (M3.voidB n.data.toList) (M3.rawB n.data.toList) ks ++ M4.endB n)) ++ (M4.textB false r ++ z)) = M7.tokOne (.mk 1 n a ⟨#[]⟩ ks) ++ (M7.toksN r ++ toksR [] z)
      rw [← hrest, List.append_assoc]
      generalize M4.textB false r ++ z = y
      obtain ⟨s1, g1⟩ := head_written n a ((M4.innerB (M3.voidB n.data.toList) (M3.rawB n.data.toList) ks ++ M4.endB n) ++ y) hn hA
      have hto : M7.tokOne (.mk 1 n a ⟨#[]⟩ ks) = ⟨1, n, a, ⟨#[]⟩⟩ :: (if M3.voidB n.data.toList then [] else M7.toksN ks ++ [⟨2, n, [], ⟨#[]⟩⟩]) := by
        unfold M7.tokOne; rw [if_pos (show (Nd.mk 1 n a ⟨#[]⟩ ks).kind = 1 from rfl)]; rfl
      rw [hto]
      have hkb : keepT (⟨1, n, a, ⟨#[]⟩⟩ : Tok) = [⟨1, n, a, ⟨#[]⟩⟩] := rfl
      cases hv : M3.voidB n.data.toList
      · have hend : M4.endB n = [60, 47] ++ (n.data.toList ++ [62]) := by unfold M4.endB; rw [hv]; rfl
        rw [hv, hend, List.append_assoc] at s1 g1
        rw [hend, if_neg Bool.false_ne_true, List.append_assoc (M4.innerB _ _ _)]
        obtain ⟨s2, g2⟩ := end_written n y hn
        have hendt : toksR [] ([60, 47] ++ (n.data.toList ++ [62]) ++ y) = ⟨2, n, [], ⟨#[]⟩⟩ :: toksR [] y := by
          rw [round_tag _ s2 (by rw [g2]; intro h; exact absurd h.1 (by show ¬ (2 : Int) = 1; decide)), g2]
          rfl
        cases hr : M3.rawB n.data.toList
        · rw [hr] at s1 g1
          rw [round_tag _ s1 (by rw [g1]; intro h; have := h.2; rw [show (⟨1, n, a, ⟨#[]⟩⟩ : Tok).name = n from rfl, hr] at this; cases this), g1]
          show keepT _ ++ toksR [] (M4.innerB false false ks ++ _) = _
          rw [hkb, M4.innerB_no, ih1 false _ (.inr s2) a4 m2, hendt]
          simp
        · rw [hr] at s1 g1
          rw [round_raw _ s1 (by rw [g1]; exact ⟨rfl, hr⟩), g1]
          show keepT _ ++ (keepT (contC (endN n.data.toList (M4.innerB false true ks ++ _)) (M4.innerB false true ks ++ _)) ++ toksR [] ((M4.innerB false true ks ++ _).drop (endN n.data.toList (M4.innerB false true ks ++ _)))) = _
          rw [hkb, M4.innerB_no]
          have hfit : ∀ x ∈ ks, x.kind = 2 ∧ M6.endsHere n.data.toList x.text.data.toList = true := fun x hx => by
            have h := List.all_eq_true.1 a3 x hx
            unfold M6.fitsB at h
            rw [show (Nd.mk 1 n a ⟨#[]⟩ ks).name = n from rfl, hv, hr, if_neg Bool.false_ne_true, if_pos rfl, Bool.and_eq_true] at h
            exact ⟨by simpa [M3.isText] using h.1, h.2⟩
          obtain ⟨nf1, nf2, nf3⟩ := name_facts hn
          have hfold : M1.fold ([60, 47] ++ n.data.toList) = [60, 47] ++ n.data.toList := by
            unfold M1.fold
            rw [List.map_append]
            have := fold_own _ nf2
            unfold M1.fold at this
            rw [this]
            rfl
          cases ks with
          | nil =>
            have he : endN n.data.toList (M4.textB true [] ++ ([60, 47] ++ (n.data.toList ++ [62]) ++ y)) = 0 := by
              rw [M4.textB_nil, List.nil_append]
              unfold endN
              have := ends_here ([60, 47] ++ n.data.toList) y hfold (by simp)
              rw [show [60, 47] ++ (n.data.toList ++ [62]) ++ y = [60, 47] ++ n.data.toList ++ 62 :: y by simp, this]
              rfl
            rw [he, M4.textB_nil, List.drop_zero, List.nil_append, hendt, M7.toksN_nil]
            rfl
          | cons x r' =>
            obtain ⟨x1, x2⟩ := hfit x (by simp)
            obtain ⟨c1, -, c3⟩ := M7.may_cons m2
            have hr' : r' = [] := by
              cases r' with
              | nil => rfl
              | cons y' r'' =>
                obtain ⟨y1, -⟩ := hfit y' (by simp)
                rw [x1] at c3
                obtain ⟨d1, -, -⟩ := M7.may_cons c3
                rcases M7.one_kinds d1 with h | h | h
                · omega
                · exact absurd h.2.2.2.2 (by simp)
                · omega
            subst hr'
            have hxn : x.text.data.toList ≠ [] := by
              rcases M7.one_kinds c1 with h | h | h
              · omega
              · intro e
                have := h.2.2.2.1
                rw [M3.nilB_data', e] at this
                cases this
              · omega
            have htx : M4.textB true [x] = x.text.data.toList := by
              rw [M4.textB_cons, M4.textB_nil, List.append_nil, M4.oneB_2 x1]
              rfl
            have he : endN n.data.toList (x.text.data.toList ++ ([60, 47] ++ (n.data.toList ++ [62]) ++ y)) = x.text.data.toList.length := by
              unfold M6.endsHere at x2
              have x2 : endsL ([60, 47] ++ n.data.toList) (x.text.data.toList ++ ([60, 47] ++ n.data.toList ++ [62])) = some x.text.data.toList.length := by simpa using x2
              have := ends_ext _ _ y _ x2
              unfold endN
              rw [show x.text.data.toList ++ ([60, 47] ++ (n.data.toList ++ [62]) ++ y) = x.text.data.toList ++ ([60, 47] ++ n.data.toList ++ [62]) ++ y by simp, this]
              rfl
            rw [htx, he, List.drop_left, hendt]
            have hlen : x.text.data.toList.length ≠ 0 := fun e => hxn (List.eq_nil_of_length_eq_zero e)
            have hto1 : M7.toksN [x] = [⟨3, ⟨#[]⟩, [], x.text⟩] := by
              rw [M7.toksN_cons, M7.toksN_nil, List.append_nil]
              unfold M7.tokOne
              rw [if_neg (by omega), if_pos x1]
            unfold contC
            rw [if_neg hlen, List.take_left, bs_of, hto1]
            rfl
      · have hend : M4.endB n = [] := by unfold M4.endB; rw [hv]; rfl
        have hraw : M3.rawB n.data.toList = false := by
          cases hr : M3.rawB n.data.toList
          · rfl
          · unfold M3.voidB at hv
            unfold M3.rawB at hr
            simp only [Bool.or_eq_true, beq_iff_eq] at hr hv
            rcases hr with hr | hr <;> rw [hr] at hv <;> simp at hv
        rw [hv, hend] at s1 g1
        rw [hend]
        rw [round_tag _ s1 (by rw [g1]; intro h; have := h.2; rw [show (⟨1, n, a, ⟨#[]⟩⟩ : Tok).name = n from rfl, hraw] at this; cases this), g1]
        show keepT _ ++ toksR [] (M4.innerB true _ ks ++ [] ++ y) = _
        rw [hkb, M4.innerB_yes]
        rfl
    · have hk : k = 2 := hk
      have hx : Nd.mk k n a t ks = .mk 2 ⟨#[]⟩ [] t [] := hx
      rw [M4.oneB_2 (show (Nd.mk k n a t ks).kind = 2 from hk)]
      have hne : M3.nilB t = false := hne
      have hnt : t.data.toList ≠ [] := fun e => by rw [M3.nilB_data', e] at hne; cases hne
      have htag : Tagged (M4.textB false r ++ z) := rest_tagged r z hz (by have := m3; rw [show (Nd.mk k n a t ks).kind = 2 from hk] at this; exact this) a2
      show toksR [] (M2.escape false t.data.toList ++ (M4.textB false r ++ z)) = _
      rw [text_written _ _ htag hnt, hrest, bs_of]
      unfold M7.tokOne
      rw [if_neg (show ¬ (Nd.mk k n a t ks).kind = 1 by show ¬ k = 1; omega), if_pos (show (Nd.mk k n a t ks).kind = 2 from hk)]
      rfl
    · have hk : k = 3 := hk
      rw [M4.oneB_3 (show (Nd.mk k n a t ks).kind = 3 from hk)]
      have hf : findL [45, 45, 62] t.data.toList = t.data.toList.length := by
        unfold M6.remB M6.hasB at ar
        rw [show (Nd.mk k n a t ks).kind = 3 from hk] at ar
        change (decide ((3 : Int) = 3) && decide (findL [45, 45, 62] t.data.toList < t.data.toList.length)) = false at ar
        have := findL_le [45, 45, 62] t.data.toList
        have : ¬ findL [45, 45, 62] t.data.toList < t.data.toList.length := by
          intro h
          rw [decide_eq_true h] at ar
          cases ar
        omega
      obtain ⟨s1, g1⟩ := comm_written t (M4.textB false r ++ z) hf
      show toksR [] (M4.commB t ++ (M4.textB false r ++ z)) = _
      rw [round_tag _ s1 (by rw [g1]; intro h; exact absurd h.1 (by show ¬ (4 : Int) = 1; decide)), g1]
      show [_] ++ toksR [] (M4.textB false r ++ z) = _
      rw [hrest]
      unfold M7.tokOne
      rw [if_neg (show ¬ (Nd.mk k n a t ks).kind = 1 by show ¬ k = 1; omega), if_neg (show ¬ (Nd.mk k n a t ks).kind = 2 by show ¬ k = 2; omega)]
      rfl
theorem tree_text {l : List Nd} (h : M6.stableB l = true) : M7.tree (tokens (M4.textB false l)) = l := by
  unfold M6.stableB at h
  rw [Bool.and_eq_true] at h
  have hm : M3.mayE false l = 0 := by simpa using h.1
  have := toks_nodes l false [] (.inl rfl) h.2 hm
  rw [List.append_nil, toksR_nil] at this
  rw [tokens_eq, this]
  show M7.tree (M7.toksN l ++ []) = l
  rw [List.append_nil]
  exact M7.tree_nodes h.2 hm
end M5
end Go.Proofs.YteefodibpjgicaaGreat

namespace Go.Proofs.YteefodibpjgicaaGreat
namespace M5
open M1 (isB)
theorem not_gt_lo {q c : UInt8} (hq : q.toNat < 128) (h : (c != q) = false) : c.toNat < 128 := by
  have : c = q := by simpa using h
  subst this; exact hq
theorem R.val1 {l : List UInt8} (h : R l) : R (valC l).1 := by
  unfold valC
  cases l with
  | nil => exact R.nil
  | cons q t =>
    show R (if q = 34 ∨ q = 39 then quoted q t else _).1
    split
    · rename_i hq
      have hq' : q.toNat < 128 := by rcases hq with rfl | rfl <;> decide
      exact (R.upto (q := (· != q)) (fun c hc => not_gt_lo hq' hc) (h.drop1 hq')).1
    · exact (R.upto (q := bareB) (fun c hc => bare_lo hc) h).1
theorem R.attv {l : List UInt8} (h : R l) : R (attC l).1.value.data.toList := by
  have h1 : R ((l.dropWhile keyB).dropWhile blankB) := R.drops (fun _ h => blank_lo h) (R.upto (q := keyB) (fun c hc => stop_lo hc) h).2
  by_cases hx : ∃ r, (l.dropWhile keyB).dropWhile blankB = 61 :: r
  · obtain ⟨r, hx⟩ := hx
    rw [attC_61 l r hx]
    rw [hx] at h1
    show R (bs _).data.toList
    rw [bs_data]
    exact M2.isB_decode _ (R.val1 (R.drops (fun _ h => blank_lo h) (h1.drop1 (by decide))))
  · rw [attC_ne l (fun r e => hx ⟨r, e⟩)]
    exact R.nil
theorem addT_mem {acc : List Att} {a b : Att} (h : b ∈ addT acc a) : b ∈ acc ∨ b = a := by
  unfold addT at h
  split at h
  · exact .inl h
  · rcases List.mem_append.1 h with h | h
    · exact .inl h
    · exact .inr (List.mem_singleton.1 h)
theorem over_gt {c : UInt8} (h : overB c = false) : c ≠ 62 → keyB c = true := by
  intro h62
  unfold overB at h
  unfold keyB stopB
  simp only [Bool.or_eq_false_iff] at h
  simp [h.1.1, h.1.2, h.2, h62]
theorem atts_right : ∀ (n : Nat) (l : List UInt8) (acc as_ : List Att) (r : List UInt8), l.length ≤ n → R l → (∀ a ∈ acc, R a.value.data.toList) → attsR l acc = some (as_, r) → ∀ a ∈ as_, R a.value.data.toList := by
  intro n
  induction n with
  | zero =>
    intro l acc as_ r hl _ _ h
    obtain rfl : l = [] := List.eq_nil_of_length_eq_zero (by omega)
    rw [attsR_nil] at h; cases h
  | succ n ih =>
    intro l acc as_ r hl hR hacc h
    rw [atts_over] at h
    have hle := (List.dropWhile_suffix (l := l) overB).length_le
    have hR2 : R (l.dropWhile overB) := R.drops (fun _ h => over_lo h) hR
    cases hd : l.dropWhile overB with
    | nil => rw [hd, attsR_nil] at h; cases h
    | cons c t =>
      have hov := over_head l c t hd
      rw [hd] at h hle hR2
      by_cases h62 : c = 62
      · rw [attsR_cons, if_pos h62] at h
        cases h
        exact hacc
      · rw [atts_one c t acc hov h62] at h
        have hlt := attC_lt c t hov h62
        simp only [List.length_cons] at hlt hle
        refine ih _ _ _ _ (by omega) (R.att hR2) (fun a ha => ?_) h
        rcases addT_mem ha with ha | rfl
        · exact hacc a ha
        · exact R.attv hR2
theorem pre_take {w l : List UInt8} {k : Nat} (h : w.isPrefixOf (l.take k) = true) : w.isPrefixOf l = true := by
  rw [List.isPrefixOf_iff_prefix] at h ⊢
  exact h.trans (List.take_prefix _ _)
theorem find_lt_no {w l : List UInt8} : ∀ i, i < findL w l → w.isPrefixOf (l.drop i) = false := by
  induction l with
  | nil => intro i hi; simp [findL] at hi
  | cons c r ih =>
    intro i hi
    rw [findL] at hi
    split at hi
    · omega
    · rename_i h0
      cases i with
      | zero => exact Bool.eq_false_iff.2 h0
      | succ i => exact ih i (by omega)
theorem find_all {w l : List UInt8} (h : ∀ i, i < l.length → w.isPrefixOf (l.drop i) = false) : findL w l = l.length := by
  have := find_skip w l l.length (Nat.le_refl _) h
  rw [List.drop_length] at this
  simpa [findL] using this
theorem find_take (w l : List UInt8) (k : Nat) (hk : k ≤ findL w l) : findL w (l.take k) = (l.take k).length := by
  refine find_all (fun i hi => ?_)
  rw [List.length_take] at hi
  cases h : w.isPrefixOf ((l.take k).drop i)
  · rfl
  · rw [List.drop_take] at h
    have := pre_take h
    rw [find_lt_no i (by omega)] at this
    cases this
theorem no_rem {t : List UInt8} (h : findL [62] t = t.length) : findL [45, 45, 62] t = t.length := by
  refine find_all (fun i hi => ?_)
  cases hp : ([45, 45, 62] : List UInt8).isPrefixOf (t.drop i)
  · rfl
  · exfalso
    obtain ⟨b, hb⟩ := List.isPrefixOf_iff_prefix.1 hp
    have hl := congrArg List.length hb
    rw [List.length_drop] at hl
    simp only [List.length_append, List.length_cons, List.length_nil] at hl
    have := find_none h (i + 2) (by omega)
    rw [← List.drop_drop, ← hb] at this
    simp at this
theorem upto_right {w1 : List UInt8} {c : UInt8} (hc : c.toNat < 128) {l : List UInt8} (h : R l) : R (uptoR (c :: w1) l).1 ∧ findL (c :: w1) (uptoR (c :: w1) l).1 = (uptoR (c :: w1) l).1.length := by
  unfold M5.uptoR
  split
  · rename_i hf
    refine ⟨?_, find_take _ _ _ (Nat.le_refl _)⟩
    obtain ⟨b, hb⟩ := find_at _ l hf
    have e := List.take_append_drop (findL (c :: w1) l) l
    rw [hb] at e
    rw [← e] at h
    rw [List.cons_append] at h
    show R (l.take _)
    have h2 := R.head h hc
    exact h2
  · rename_i hf
    have := findL_le (c :: w1) l
    exact ⟨h, by show findL _ l = l.length; omega⟩
def TokOk (t : Tok) : Prop :=
  (t.kind = 1 ∧ M3.namedB t.name.data.toList = true ∧ AttsOk t.attrs ∧ ∀ a ∈ t.attrs, R a.value.data.toList) ∨ t.kind = 2 ∨
  (t.kind = 3 ∧ R t.text.data.toList ∧ t.text.data.toList ≠ []) ∨ (t.kind = 4 ∧ R t.text.data.toList ∧ findL [45, 45, 62] t.text.data.toList = t.text.data.toList.length)
theorem tag_ok (l : List UInt8) (hs : startsB l = true) (h : R l) (hk : (tagR l).1.kind ≠ 0) : TokOk (tagR l).1 := by
  match l, hs, h, hk with
  | [], hs, _, _ => cases hs
  | [c], hs, _, _ => cases hs
  | c :: d :: r, hs, h, hk =>
    obtain ⟨rfl, hd⟩ := starts_facts hs
    have h1 : R (d :: r) := h.drop1 (by decide)
    have hdl : d.toNat < 128 := by
      rcases hd with hd | rfl | rfl | rfl
      · exact name_lo (by unfold nameB; rw [hd]; rfl)
      · decide
      · decide
      · decide
    have h2 : R r := h1.drop1 hdl
    unfold tagR at hk ⊢
    rw [if_pos hs] at hk ⊢
    change (if letterB d then _ else _ : Tok × List UInt8).1.kind ≠ 0 at hk
    show TokOk (if letterB d then _ else _ : Tok × List UInt8).1
    by_cases hl : letterB d = true
    · rw [if_pos hl, begin_eq] at hk ⊢
      have e : (60 :: d :: r).drop 1 = d :: r := rfl
      rw [e] at hk ⊢
      have h3 : R ((d :: r).dropWhile nameB) := R.drops (fun _ h => name_lo h) h1
      cases ha : attsR ((d :: r).dropWhile nameB) [] with
      | none => rw [ha] at hk; exact absurd rfl hk
      | some p =>
        obtain ⟨as_, q⟩ := p
        obtain ⟨g1, g2⟩ := atts_shape ((d :: r).dropWhile nameB).length _ _ [] as_ q (Nat.le_refl _) (Nat.le_refl _) h3 ⟨fun a h => (nomatch h), List.Pairwise.nil⟩ ha
        have g3 := atts_right _ _ [] as_ q (Nat.le_refl _) h3 (fun a h => (nomatch h)) ha
        refine .inl ⟨rfl, ?_, ⟨fun a ha => (g1.1 a ha).1, g1.2⟩, g3⟩
        show M3.namedB (bs _).data.toList = true
        rw [bs_data]; exact named_tw d r hl
    · rw [if_neg hl] at hk ⊢
      split
      · rename_i hp
        obtain ⟨b, hb⟩ := List.isPrefixOf_iff_prefix.1 hp
        have h4 : R ((60 :: d :: r).drop 4) := by
          rw [← hb] at h ⊢
          exact R.tail (a := [60, 33, 45]) h (by decide)
        have h5 := upto_right (w1 := [45, 62]) (c := 45) (by decide) h4
        refine .inr (.inr (.inr ⟨rfl, ?_, ?_⟩))
        · show R (bs _).data.toList; rw [bs_data]; exact h5.1
        · show findL _ (bs _).data.toList = (bs _).data.toList.length; rw [bs_data]; exact h5.2
      · rename_i hp0
        rw [if_neg hp0] at hk
        split
        · rename_i hp
          rw [if_pos hp] at hk
          exact absurd rfl hk
        · rename_i hp1
          rw [if_neg hp1] at hk
          split
          · rename_i hx
            rw [if_pos hx] at hk
            split
            · exact .inr (.inl rfl)
            · rename_i hf
              rw [if_neg hf] at hk
              exact absurd rfl hk
          · have h5 := upto_right (w1 := []) (c := 62) (by decide) h2
            refine .inr (.inr (.inr ⟨rfl, ?_, ?_⟩))
            · show R (bs _).data.toList; rw [bs_data]; exact h5.1
            · show findL _ (bs _).data.toList = (bs _).data.toList.length; rw [bs_data]; exact no_rem h5.2
def hitB (w l : List UInt8) : Bool := M1.fold (l.take w.length) == w && stopH (l.drop w.length)
theorem ends_cons (w : List UInt8) (c : UInt8) (r : List UInt8) : endsL w (c :: r) = if hitB w (c :: r) = true then some 0 else (endsL w r).map (· + 1) := ends_step w c r
theorem ends_some (w : List UInt8) : ∀ (l : List UInt8) (k : Nat), endsL w l = some k → k < l.length ∧ hitB w (l.drop k) = true ∧ ∀ i, i < k → hitB w (l.drop i) = false := by
  intro l
  induction l with
  | nil => intro k h; cases h
  | cons c r ih =>
    intro k h
    rw [ends_cons] at h
    by_cases hh : hitB w (c :: r) = true
    · rw [if_pos hh] at h
      have h : 0 = k := by simpa using h
      subst h
      exact ⟨by simp, hh, fun i hi => by omega⟩
    · rw [if_neg hh] at h
      cases hr : endsL w r with
      | none => rw [hr] at h; cases h
      | some j =>
        rw [hr] at h
        have h : j + 1 = k := by simpa using h
        subst h
        obtain ⟨a, b, c'⟩ := ih j hr
        refine ⟨by simp; exact a, b, fun i hi => ?_⟩
        cases i with
        | zero => exact Bool.eq_false_iff.2 hh
        | succ i => exact c' i (by omega)
theorem ends_none (w : List UInt8) : ∀ (l : List UInt8), endsL w l = none → ∀ i, i < l.length → hitB w (l.drop i) = false := by
  intro l
  induction l with
  | nil => intro _ i hi; simp at hi
  | cons c r ih =>
    intro h i hi
    rw [ends_cons] at h
    by_cases hh : hitB w (c :: r) = true
    · rw [if_pos hh] at h; cases h
    · rw [if_neg hh] at h
      cases i with
      | zero => exact Bool.eq_false_iff.2 hh
      | succ i => exact ih (by simpa using h) i (by simpa using hi)
theorem ends_first (w : List UInt8) : ∀ (l : List UInt8) (k : Nat), k < l.length → hitB w (l.drop k) = true → (∀ i, i < k → hitB w (l.drop i) = false) → endsL w l = some k := by
  intro l
  induction l with
  | nil => intro k hk; simp at hk
  | cons c r ih =>
    intro k hk h1 h2
    rw [ends_cons]
    cases k with
    | zero => rw [List.drop_zero] at h1; rw [if_pos h1]
    | succ k =>
      have := h2 0 (by omega)
      rw [List.drop_zero] at this
      rw [this, if_neg Bool.false_ne_true, ih k (by simpa using hk) h1 (fun i hi => h2 (i + 1) (by omega))]
      rfl
theorem hit_pre (w u a b : List UInt8) (h : w.length < u.length) : hitB w (u ++ a) = hitB w (u ++ b) := by
  unfold hitB
  rw [List.take_append_of_le_length (by omega), List.take_append_of_le_length (by omega), List.drop_append_of_le_length (by omega), List.drop_append_of_le_length (by omega)]
  cases hq : u.drop w.length with
  | nil =>
    have := congrArg List.length hq
    rw [List.length_drop] at this
    simp only [List.length_nil] at this
    omega
  | cons d t => rfl
theorem ends_own {nm t : List UInt8} (hf : M1.fold ([60, 47] ++ nm) = [60, 47] ++ nm) (hnm : ∀ c ∈ nm, c ≠ 60) (z : List UInt8) (h : ∀ i, i < t.length → hitB ([60, 47] ++ nm) ((t ++ z).drop i) = false) : M6.endsHere nm t = true := by
  unfold M6.endsHere
  rw [beq_iff_eq]
  refine ends_first _ _ _ (by simp) ?_ (fun i hi => ?_)
  · rw [List.drop_left]
    unfold hitB
    rw [List.take_left, List.drop_left, hf]
    simp [stopH]
  · rw [List.drop_append_of_le_length (by omega)]
    have h1 := h i hi
    rw [List.drop_append_of_le_length (by omega)] at h1
    have hl : 0 < (t.drop i).length := by rw [List.length_drop]; omega
    generalize t.drop i = u at *
    generalize hw : [60, 47] ++ nm = w at *
    rcases Nat.lt_trichotomy w.length u.length with h2 | h2 | h2
    · rw [hit_pre w u _ z h2]; exact h1
    · unfold hitB
      rw [h2, List.drop_left, ← hw]
      have : stopH ([60, 47] ++ nm ++ [62]) = false := rfl
      rw [this, Bool.and_false]
    · unfold hitB
      have : (M1.fold ((u ++ (w ++ [62])).take w.length) == w) = false := by
        rw [beq_eq_false_iff_ne]
        intro e
        have e2 := congrArg (fun l => l[u.length]?) e
        have hq : ((u ++ (w ++ [62])).take w.length)[u.length]? = some 60 := by
          rw [List.getElem?_take, if_pos h2, List.getElem?_append_right (Nat.le_refl _), Nat.sub_self, ← hw]
          rfl
        simp only [M1.fold, List.getElem?_map, hq] at e2
        have e3 : w[u.length]? = some 60 := e2.symm
        rw [← hw] at e3
        cases hu : u.length with
        | zero => omega
        | succ m =>
          cases m with
          | zero => rw [hu] at e3; simp at e3
          | succ m =>
            rw [hu] at e3
            have : nm[m]? = some 60 := by simpa using e3
            exact hnm 60 (List.mem_of_getElem? this) rfl
      rw [this, Bool.false_and]
theorem small_name {c : UInt8} (h : nameB (M1.small c) = true) : nameB c = true := by
  rcases small_cases c with ⟨h1, h2, -⟩ | ⟨-, h2⟩
  · unfold nameB letterB; simp [h1, h2]
  · rwa [h2] at h
theorem small_letter {c : UInt8} (h : letterB (M1.small c) = true) : letterB c = true := by
  rcases small_cases c with ⟨h1, h2, -⟩ | ⟨-, h2⟩
  · unfold letterB; simp [h1, h2]
  · rwa [h2] at h
theorem small_47 {c : UInt8} (h : M1.small c = 47) : c = 47 := by
  rcases small_cases c with ⟨h1, h2, h3⟩ | ⟨-, h2⟩
  · rw [h] at h3
    have : (47 : UInt8).toNat = 47 := rfl
    omega
  · rw [← h2]; exact h
theorem stop_name {d : UInt8} (h : (blankB d || d == 47 || d == 62) = true) : nameB d = false := by
  cases hn : nameB d
  · rfl
  · exfalso
    unfold blankB at h
    simp only [Bool.or_eq_true, beq_iff_eq] at h
    rcases h with (((((rfl | rfl) | rfl) | rfl) | rfl)) | rfl <;> exact absurd hn (by decide)
theorem raw_next {nm : List UInt8} {x : List UInt8} (hn : M3.namedB nm = true) (h : hitB ([60, 47] ++ nm) x = true) : toksR [] x = [] ∨ ∃ r, toksR [] x = ⟨2, bs nm, [], ⟨#[]⟩⟩ :: r := by
  obtain ⟨⟨c0, r0, hc0, hl0⟩, nf2, nf3⟩ := name_facts hn
  unfold hitB at h
  rw [Bool.and_eq_true, beq_iff_eq] at h
  obtain ⟨h1, h2⟩ := h
  have hx := List.take_append_drop ([60, 47] ++ nm).length x
  generalize x.take ([60, 47] ++ nm).length = p at *
  cases hq : x.drop ([60, 47] ++ nm).length with
  | nil => rw [hq] at h2; cases h2
  | cons d y =>
    rw [hq] at h2 hx
    have hd : nameB d = false := stop_name h2
    match p, h1 with
    | [], h1 => simp [M1.fold] at h1
    | [a], h1 => simp [M1.fold] at h1
    | a :: b :: u, h1 =>
      have h1 : M1.small a :: M1.small b :: u.map M1.small = 60 :: 47 :: nm := h1
      injection h1 with e1 h1
      injection h1 with e2 e3
      have e1 := small_lt60 e1
      have e2 := small_47 e2
      subst e1 e2
      have hu : ∀ c ∈ u, nameB c = true := fun c hc => small_name (nf3 _ (by rw [← e3]; exact List.mem_map_of_mem hc))
      subst hx
      cases u with
      | nil => rw [hc0] at e3; cases e3
      | cons u0 u' =>
        have hlu : letterB u0 = true := small_letter (by rw [hc0] at e3; injection e3 with e4 e5; rw [e4]; exact hl0)
        have hs : startsB ((60 :: 47 :: u0 :: u') ++ d :: y) = true := rfl
        have h62 : u0 ≠ 62 := by rintro rfl; exact absurd hlu (by decide)
        obtain ⟨t1, t2⟩ := tw_all nameB (u0 :: u') d y hu hd
        have ht : tagR ((60 :: 47 :: u0 :: u') ++ d :: y) = if findL [62] ((u0 :: u') ++ d :: y) < ((u0 :: u') ++ d :: y).length then (⟨2, bs nm, [], ⟨#[]⟩⟩, ((u0 :: u') ++ d :: y).drop (findL [62] ((u0 :: u') ++ d :: y) + 1)) else (zero, []) := by
          unfold tagR
          rw [if_pos hs]
          show (if letterB 47 then _ else _ : Tok × List UInt8) = _
          rw [show letterB 47 = false from by decide, if_neg Bool.false_ne_true]
          have p4 : [60, 33, 45, 45].isPrefixOf ((60 :: 47 :: u0 :: u') ++ d :: y) = false := rfl
          have p3 : [60, 47, 62].isPrefixOf ((60 :: 47 :: u0 :: u') ++ d :: y) = false := by
            show (60 == 60 && (47 == 47 && (62 == u0 && _))) = false
            rw [beq_eq_false_iff_ne.2 (fun e : (62 : UInt8) = u0 => h62 e.symm)]
            rfl
          rw [p4, p3, if_neg Bool.false_ne_true, if_neg Bool.false_ne_true, if_pos ⟨rfl, congrArg some hlu⟩]
          have e6 : bs (M1.fold ((u0 :: u' ++ d :: y).takeWhile nameB)) = bs nm := by rw [t1]; unfold M1.fold; rw [e3]
          show (if findL [62] (u0 :: u' ++ d :: y) < (u0 :: u' ++ d :: y).length then ((⟨2, bs (M1.fold ((u0 :: u' ++ d :: y).takeWhile nameB)), [], ⟨#[]⟩⟩ : Tok), _) else _) = _
          rw [e6]
          rfl
        by_cases hf : findL [62] ((u0 :: u') ++ d :: y) < ((u0 :: u') ++ d :: y).length
        · rw [if_pos hf] at ht
          right
          rw [round_tag _ hs (by rw [ht]; intro h; exact absurd h.1 (by show ¬ (2 : Int) = 1; decide)), ht]
          exact ⟨_, rfl⟩
        · rw [if_neg hf] at ht
          left
          rw [round_tag _ hs (by rw [ht]; intro h; exact absurd h.1 (by show ¬ (0 : Int) = 1; decide)), ht]
          rfl
def RawTail (nm : ByteArray) (r : List Tok) : Prop :=
  (r = [] ∨ ∃ r', r = ⟨2, nm, [], ⟨#[]⟩⟩ :: r') ∨ ∃ c r', r = ⟨3, ⟨#[]⟩, [], c⟩ :: r' ∧ M6.endsHere nm.data.toList c.data.toList = true ∧ (r' = [] ∨ ∃ r'', r' = ⟨2, nm, [], ⟨#[]⟩⟩ :: r'')
def OkL : List Tok → Prop
  | [] => True
  | t :: r => TokOk t ∧ (t.kind = 1 → M3.rawB t.name.data.toList = true → RawTail t.name r) ∧ OkL r
theorem toks_ok : ∀ (n : Nat) (l : List UInt8), l.length ≤ n → R l → OkL (toksR [] l) := by
  intro n
  induction n with
  | zero =>
    intro l hn _
    obtain rfl : l = [] := List.eq_nil_of_length_eq_zero (by omega)
    rw [toksR_nil]; trivial
  | succ n ih =>
    intro l hn hR
    by_cases hl : l = []
    · subst hl; rw [toksR_nil]; trivial
    by_cases hs : startsB l = true
    · obtain ⟨g1, g2⟩ := tag_shape l.length l (Nat.le_refl _) hs hR
      have g3 := tag_ok l hs hR
      have hlt := tag_lt l hs
      by_cases hr : (tagR l).1.kind = 1 ∧ M3.rawB (tagR l).1.name.data.toList = true
      · rw [round_raw l hs hr]
        have hk : (tagR l).1.kind ≠ 0 := by rw [hr.1]; decide
        have g3 := g3 hk
        rw [keep_ne hk]
        generalize (tagR l).1 = T at *
        generalize (tagR l).2 = x at *
        have hnm : M3.namedB T.name.data.toList = true := by
          rcases g3 with h | h | h | h
          · exact h.2.1
          · rw [hr.1] at h; exact absurd h (by decide)
          · rw [hr.1] at h; exact absurd h.1 (by decide)
          · rw [hr.1] at h; exact absurd h.1 (by decide)
        have hle := endN_le T.name.data.toList x
        have hnext : toksR [] (x.drop (endN T.name.data.toList x)) = [] ∨ ∃ r, toksR [] (x.drop (endN T.name.data.toList x)) = ⟨2, T.name, [], ⟨#[]⟩⟩ :: r := by
          unfold endN
          cases he : endsL ([60, 47] ++ T.name.data.toList) x with
          | none => left; show toksR [] (x.drop x.length) = []; rw [List.drop_length, toksR_nil]; rfl
          | some k =>
            have := raw_next hnm (ends_some _ _ _ he).2.1
            rw [bs_of] at this
            exact this
        have hok : OkL (toksR [] (x.drop (endN T.name.data.toList x))) := ih _ (by rw [List.length_drop]; omega) g1.ends
        have hno : ∀ i, i < endN T.name.data.toList x → hitB ([60, 47] ++ T.name.data.toList) (x.drop i) = false := by
          intro i hi
          unfold endN at hi
          cases he : endsL ([60, 47] ++ T.name.data.toList) x with
          | none => rw [he] at hi; exact ends_none _ _ he i hi
          | some k => rw [he] at hi; exact (ends_some _ _ _ he).2.2 i hi
        have hRt : R (x.take (endN T.name.data.toList x)) := by
          unfold endN
          cases he : endsL ([60, 47] ++ T.name.data.toList) x with
          | none => show R (x.take x.length); rw [List.take_length]; exact g1
          | some k =>
            show R (x.take k)
            obtain ⟨q, hq⟩ := ends_at T.name.data.toList x k he
            have e := List.take_append_drop k x
            rw [hq] at e
            rw [← e] at g1
            exact g1.head (by decide)
        generalize endN T.name.data.toList x = k at *
        unfold contC
        by_cases hz : k = 0
        · rw [if_pos hz]
          refine ⟨g3, fun _ _ => .inl ?_, ?_⟩
          · exact hnext
          · exact hok
        · rw [if_neg hz]
          have hxl : (x.take k).length = k := by rw [List.length_take]; omega
          refine ⟨g3, fun _ _ => .inr ⟨bs (x.take k), toksR [] (x.drop k), rfl, ?_, hnext⟩, ?_, ?_, hok⟩
          · rw [bs_data]
            obtain ⟨⟨c0, r0, hc0, hl0⟩, nf2, nf3⟩ := name_facts hnm
            have hfold : M1.fold ([60, 47] ++ T.name.data.toList) = [60, 47] ++ T.name.data.toList := by
              have := fold_own _ nf2
              unfold M1.fold at this ⊢
              rw [List.map_append, this]
              rfl
            refine ends_own hfold (fun c hc e => by have := nf3 c hc; subst e; exact absurd this (by decide)) (x.drop k) (fun i hi => ?_)
            rw [List.take_append_drop]
            exact hno i (by omega)
          · refine .inr (.inr (.inl ⟨rfl, ?_, ?_⟩))
            · show R (bs _).data.toList; rw [bs_data]; exact hRt
            · show (bs _).data.toList ≠ []
              rw [bs_data]
              intro e
              rw [e] at hxl
              exact hz hxl.symm
          · intro h; exact absurd h (by show ¬ (3 : Int) = 1; decide)
      · rw [round_tag l hs hr]
        have hok := ih (tagR l).2 (by omega) g1
        by_cases hk : (tagR l).1.kind ≠ 0
        · rw [keep_ne hk]
          exact ⟨g3 hk, fun h1 h2 => absurd ⟨h1, h2⟩ hr, hok⟩
        · rw [keepT, if_neg hk]
          exact hok
    · have hs : startsB l = false := by simpa using hs
      have hp := plain_pos l hl hs
      have hple := plainN_le l
      rw [toks_step l hl hs]
      refine ⟨.inr (.inr (.inl ⟨rfl, ?_, ?_⟩)), fun h => absurd h (by show ¬ (3 : Int) = 1; decide), ih _ (by rw [List.length_drop]; omega) hR.plain⟩
      · show R (bs _).data.toList
        rw [bs_data]
        refine M2.isB_decode _ ?_
        cases hd : l.drop (plainN l) with
        | nil =>
          have := congrArg List.length hd
          rw [List.length_drop, List.length_nil] at this
          rw [List.take_of_length_le (by omega)]
          exact hR
        | cons c r =>
          obtain ⟨q, hq⟩ := starts_head _ (plain_starts l (by rw [hd]; exact List.cons_ne_nil _ _))
          have e := List.take_append_drop (plainN l) l
          rw [hq] at e
          rw [← e] at hR
          exact R.head hR (by decide)
      · show (bs _).data.toList ≠ []
        rw [bs_data]
        refine decode_ne _ (fun e => ?_)
        have := congrArg List.length e
        rw [List.length_take, List.length_nil] at this
        omega
end M5
end Go.Proofs.YteefodibpjgicaaGreat

namespace Go.Proofs.YteefodibpjgicaaGreat
namespace M7
open M3 (isText withText cat push mayE oneE okP apart)
def elD : Nat → List Nd → Prop
  | 0, _ => True
  | d + 1, L => match L.getLast? with | some x => x.kind = 1 ∧ elD d x.kids | none => False
theorem elD_snoc (d : Nat) (A : List Nd) (x : Nd) : elD (d + 1) (A ++ [x]) = (x.kind = 1 ∧ elD d x.kids) := by rw [elD]; simp
theorem elD_ok {d : Nat} : ∀ {L : List Nd}, elD d L → okD d L := by
  induction d with
  | zero => intro L _; trivial
  | succ d ih =>
    intro L h
    rcases List.eq_nil_or_concat L with rfl | ⟨A, x, rfl⟩
    · exact h.elim
    · rw [List.concat_eq_append, elD_snoc] at h
      rw [List.concat_eq_append, okD_snoc]
      exact ih h.2
theorem elD_pre {n d : Nat} : ∀ {L : List Nd}, elD d L → n ≤ d → elD n L := by
  induction n generalizing d with
  | zero => intro L _ _; trivial
  | succ n ih =>
    intro L h hn
    obtain ⟨d, rfl⟩ : ∃ e, d = e + 1 := ⟨d - 1, by omega⟩
    rcases List.eq_nil_or_concat L with rfl | ⟨A, x, rfl⟩
    · exact h.elim
    · rw [List.concat_eq_append, elD_snoc] at *
      exact ⟨h.1, ih h.2 (by omega)⟩
theorem elD_put {d : Nat} (n : Nd) : ∀ {L : List Nd}, elD d L → elD d (putN d n L) := by
  induction d with
  | zero => intro L _; trivial
  | succ d ih =>
    intro L h
    rcases List.eq_nil_or_concat L with rfl | ⟨A, x, rfl⟩
    · exact h.elim
    · rw [List.concat_eq_append] at *
      rw [elD_snoc] at h
      rw [putN_snoc, elD_snoc]
      exact ⟨h.1, ih h.2⟩
theorem elD_open {d : Nat} {n : Nd} (hn : n.kind = 1) : ∀ {L : List Nd}, elD d L → elD (d + 1) (putN d n L) := by
  induction d with
  | zero =>
    intro L _
    show elD 1 (push L n)
    rw [push_node n (by simp [isText, hn]), elD_snoc]
    exact ⟨hn, trivial⟩
  | succ d ih =>
    intro L h
    rcases List.eq_nil_or_concat L with rfl | ⟨A, x, rfl⟩
    · exact h.elim
    · rw [List.concat_eq_append] at *
      rw [elD_snoc] at h
      rw [putN_snoc, elD_snoc]
      exact ⟨h.1, ih h.2⟩
def GK (p : ByteArray) (L : List Nd) : Prop := mayE false L = 0 ∧ M6.allB L = true ∧ L.all (M6.fitsB p) = true
theorem may_app (A : List Nd) : ∀ (p : Bool) (B : List Nd), mayE p (A ++ B) = 0 ↔ mayE p A = 0 ∧ mayE (lastT p A) B = 0 := by
  induction A with
  | nil => intro p B; rw [List.nil_append, M3.mayE_nil]; simp [lastT]
  | cons x r ih =>
    intro p B
    rw [List.cons_append, lastT_cons]
    constructor
    · intro h
      obtain ⟨h1, h2, h3⟩ := may_cons h
      obtain ⟨h4, h5⟩ := (ih _ _).1 h3
      refine ⟨?_, h5⟩
      rw [M3.mayE_cons, h1, h2, h4]; simp
    · rintro ⟨h, h5⟩
      obtain ⟨h1, h2, h3⟩ := may_cons h
      have h4 := (ih _ _).2 ⟨h3, h5⟩
      rw [M3.mayE_cons, h1, h2, h4]; simp
theorem may_one {p : Bool} {x : Nd} : mayE p [x] = 0 ↔ oneE x p = 0 ∧ mayE false x.kids = 0 := by
  constructor
  · intro h
    obtain ⟨h1, h2, -⟩ := may_cons h
    exact ⟨h1, h2⟩
  · rintro ⟨h1, h2⟩
    rw [M3.mayE_cons, h1, h2, M3.mayE_nil]; simp
theorem allB_app (A B : List Nd) : M6.allB (A ++ B) = true ↔ M6.allB A = true ∧ M6.allB B = true := by
  rw [M6.allB_iff, M6.allB_iff, M6.allB_iff]
  constructor
  · intro h
    exact ⟨fun x hx => h x (by simp [hx]), fun x hx => h x (by simp [hx])⟩
  · rintro ⟨h1, h2⟩ x hx
    rcases List.mem_append.1 hx with hx | hx
    · exact h1 x hx
    · exact h2 x hx
theorem GK_snoc {p : ByteArray} {A : List Nd} {x : Nd} : GK p (A ++ [x]) ↔ GK p A ∧ oneE x (lastT false A) = 0 ∧ M6.remB x = false ∧ M6.fitsB p x = true ∧ GK x.name x.kids := by
  unfold GK
  rw [may_app, may_one, allB_app, List.all_append, Bool.and_eq_true]
  have h1 : M6.allB [x] = true ↔ M6.remB x = false ∧ x.kids.all (M6.fitsB x.name) = true ∧ M6.allB x.kids = true := by
    rw [M6.allB_iff]
    simp [M6.oneS]
  rw [h1]
  simp only [List.all_cons, List.all_nil, Bool.and_true]
  constructor
  · rintro ⟨⟨a, b, c⟩, ⟨d, e, f, g⟩, h, i⟩; exact ⟨⟨a, d, h⟩, b, e, i, c, g, f⟩
  · rintro ⟨⟨a, d, h⟩, b, e, i, c, g, f⟩; exact ⟨⟨a, b, c⟩, ⟨d, e, f, g⟩, h, i⟩
theorem GK_nil (p : ByteArray) : GK p [] := ⟨M3.mayE_nil _, M6.allB_nil, rfl⟩
theorem one_wk {x : Nd} (ks : List Nd) (q : Bool) (h : x.kind = 1) : oneE (wk x ks) q = oneE x q := by
  unfold oneE
  rw [if_pos h, if_pos (show (wk x ks).kind = 1 from h)]
  rfl
theorem put_GK {d : Nat} (n : Nd) : ∀ {L : List Nd} {p : ByteArray}, elD d L → GK p L → GK (lastN p (openN d L)) (push (levelN d L) n) → GK p (putN d n L) := by
  induction d with
  | zero => intro L p _ _ h; exact h
  | succ d ih =>
    intro L p he hg hp
    rcases List.eq_nil_or_concat L with rfl | ⟨A, x, rfl⟩
    · exact he.elim
    · rw [List.concat_eq_append] at *
      rw [elD_snoc] at he
      rw [openN_snoc, lastN_cons, levelN_snoc] at hp
      rw [putN_snoc]
      obtain ⟨a, b, c, e, f⟩ := GK_snoc.1 hg
      refine GK_snoc.2 ⟨a, ?_, c, e, ih he.2 f hp⟩
      rw [one_wk _ _ he.1]
      exact b
theorem push_GK {q : ByteArray} {K : List Nd} {n : Nd} (h : GK q K) (hk : n.kids = []) (hr : M6.remB n = false)
    (hn : (n.kind ≠ 2 ∧ oneE n false = 0 ∧ M6.fitsB q n = true) ∨ (n.kind = 2 ∧ n = .mk 2 ⟨#[]⟩ [] n.text [] ∧ M1.isB n.text.data.toList = true ∧ M3.nilB n.text = false ∧ M3.voidB q.data.toList = false ∧ (M3.rawB q.data.toList = true → K = [] ∧ M6.endsHere q.data.toList n.text.data.toList = true))) : GK q (push K n) := by
  rcases hn with ⟨h2, h1, hf⟩ | ⟨h2, hx, hb, hne, hv, hraw⟩
  · rw [push_node n (by simpa [isText] using h2)]
    refine GK_snoc.2 ⟨h, ?_, hr, hf, by rw [hk]; exact GK_nil _⟩
    rw [← h1]
    unfold oneE
    rw [if_neg h2, if_neg h2]
  · have hbare : M3.bareB n = false := by unfold M3.bareB; rw [hne, Bool.and_false]
    have hfit : ∀ m : Nd, m.kind = 2 → (M3.rawB q.data.toList = true → m = n) → M6.fitsB q m = true := fun m hm hmn => by
      unfold M6.fitsB
      rw [hv, if_neg Bool.false_ne_true]
      split
      · rename_i hq
        rw [hmn hq, (hraw hq).2]
        simp [isText, h2]
      · simp [hm]
    have hone : ∀ (tx : ByteArray), M1.isB tx.data.toList = true → M3.nilB tx = false → oneE (.mk 2 ⟨#[]⟩ [] tx []) false = 0 := fun tx h1 h3 => by
      unfold oneE
      rw [if_neg (show ¬ (Nd.mk 2 ⟨#[]⟩ [] tx []).kind = 1 by show ¬ (2 : Int) = 1; decide), if_pos (show (Nd.mk 2 ⟨#[]⟩ [] tx []).kind = 2 from rfl)]
      have : M3.plainB (.mk 2 ⟨#[]⟩ [] tx []) = true := by unfold M3.plainB; rw [show (Nd.mk 2 ⟨#[]⟩ [] tx []).name = ⟨#[]⟩ from rfl, M3.nilB_empty]; rfl
      rw [this, if_pos rfl]
      show (if (M1.isB tx.data.toList && !(M3.nilB tx || false)) = true then (0 : Int) else 2) = 0
      rw [h1, h3]; rfl
    rcases List.eq_nil_or_concat K with rfl | ⟨A, y, rfl⟩
    · rw [M3.push_none hbare]
      have : ([n] : List Nd) = [] ++ [n] := rfl
      rw [this]
      refine GK_snoc.2 ⟨GK_nil _, ?_, hr, hfit n h2 (fun _ => rfl), by rw [hk]; exact GK_nil _⟩
      rw [hx]
      exact hone _ hb hne
    · rw [List.concat_eq_append] at *
      have hnr : M3.rawB q.data.toList = false := by
        cases hq : M3.rawB q.data.toList
        · rfl
        · have := (hraw hq).1; simp at this
      obtain ⟨a, b, c, e, f⟩ := GK_snoc.1 h
      rw [M3.push_snoc hbare]
      split
      · rename_i ht
        simp only [Bool.and_eq_true] at ht
        have hy2 : y.kind = 2 := by simpa [isText] using ht.2
        rcases one_kinds b with h | h | h
        · omega
        · obtain ⟨-, hy, yb, yn, yp⟩ := h
          have hcb : M1.isB (cat y.text n.text).data.toList = true := by
            have := M3.okP_cat y n (by unfold okP; rw [ht.2, if_pos rfl, hy]; exact ⟨by unfold M3.plainB; rw [show (Nd.mk 2 ⟨#[]⟩ [] y.text []).name = ⟨#[]⟩ from rfl, M3.nilB_empty]; rfl, yb⟩) (by unfold okP; rw [ht.1, if_pos rfl, hx]; exact ⟨by unfold M3.plainB; rw [show (Nd.mk 2 ⟨#[]⟩ [] n.text []).name = ⟨#[]⟩ from rfl, M3.nilB_empty]; rfl, hb⟩) ht.2 ht.1
            unfold okP at this
            have ht3 : isText (withText y (cat y.text n.text)) = true := ht.2
            rw [ht3, if_pos rfl] at this
            exact this.2
          have hcn : M3.nilB (cat y.text n.text) = false := by rw [M3.nilB_cat, hne, Bool.and_false]
          refine GK_snoc.2 ⟨a, ?_, ?_, hfit _ hy2 (fun hq => absurd hq (by rw [hnr]; decide)), ?_⟩
          · rw [yp, hy]
            exact hone _ hcb hcn
          · rw [hy]; unfold M6.remB; rfl
          · rw [hy]; exact GK_nil _
        · omega
      · rename_i ht
        have hyt : isText y = false := by
          cases hq : isText y
          · rfl
          · simp [isText, h2] at ht hq; exact absurd hq ht
        refine GK_snoc.2 ⟨h, ?_, hr, hfit n h2 (fun hq => absurd hq (by rw [hnr]; decide)), by rw [hk]; exact GK_nil _⟩
        rw [lastT_snoc, show (y.kind == 2) = false from hyt, hx]
        exact hone _ hb hne
theorem level_GK {d : Nat} : ∀ {L : List Nd} {p : ByteArray}, elD d L → GK p L → GK (lastN p (openN d L)) (levelN d L) := by
  induction d with
  | zero => intro L p _ h; exact h
  | succ d ih =>
    intro L p he hg
    rcases List.eq_nil_or_concat L with rfl | ⟨A, x, rfl⟩
    · exact he.elim
    · rw [List.concat_eq_append] at *
      rw [elD_snoc] at he
      rw [openN_snoc, lastN_cons, levelN_snoc]
      exact ih he.2 (GK_snoc.1 hg).2.2.2.2
theorem level_open {d : Nat} {e : Nd} (he : isText e = false) : ∀ {L : List Nd}, okD d L → levelN (d + 1) (putN d e L) = e.kids := by
  induction d with
  | zero =>
    intro L _
    show levelN 1 (push L e) = _
    rw [push_node e he, levelN_snoc]; rfl
  | succ d ih =>
    intro L h
    rcases List.eq_nil_or_concat L with rfl | ⟨A, x, rfl⟩
    · exact h.elim
    · rw [List.concat_eq_append] at *
      rw [okD_snoc] at h
      rw [putN_snoc, levelN_snoc]
      exact ih h
theorem inner_raw {d n : Nat} {L : List Nd} (he : elD d L) (hg : GK ⟨#[]⟩ L) (hn : n < d) : M3.rawB (lastN ⟨#[]⟩ (openN n L)).data.toList = false := by
  have h1 := level_GK (elD_pre he (Nat.le_of_lt hn)) hg
  have hx : ∃ A x, levelN n L = A ++ [x] ∧ x.kind = 1 := by
    clear hg h1
    induction n generalizing d L with
    | zero =>
      obtain ⟨d, rfl⟩ : ∃ e, d = e + 1 := ⟨d - 1, by omega⟩
      rcases List.eq_nil_or_concat L with rfl | ⟨A, x, rfl⟩
      · exact he.elim
      · rw [List.concat_eq_append, elD_snoc] at he
        exact ⟨A, x, by simp [levelN], he.1⟩
    | succ n ih =>
      obtain ⟨d, rfl⟩ : ∃ e, d = e + 1 := ⟨d - 1, by omega⟩
      rcases List.eq_nil_or_concat L with rfl | ⟨A, x, rfl⟩
      · exact he.elim
      · rw [List.concat_eq_append, elD_snoc] at he
        obtain ⟨B, y, h1, h2⟩ := ih he.2 (by omega)
        exact ⟨B, y, by rw [List.concat_eq_append, levelN_snoc]; exact h1, h2⟩
  obtain ⟨A, x, e, hk⟩ := hx
  rw [e] at h1
  have hf := (GK_snoc.1 h1).2.2.2.1
  cases hq : M3.rawB (lastN ⟨#[]⟩ (openN n L)).data.toList
  · rfl
  · unfold M6.fitsB at hf
    rw [hq] at hf
    split at hf
    · cases hf
    · simp [isText, hk] at hf
theorem names_zero (l : List Att) : ∀ seen : List ByteArray, (∀ a ∈ l, M3.attributedB a.name.data.toList = true) → l.Pairwise (fun a b => a.name ≠ b.name) → (∀ a ∈ l, ∀ s ∈ seen, s ≠ a.name) → M3.namesE seen l = 0 := by
  induction l with
  | nil => intro seen _ _ _; rfl
  | cons a r ih =>
    intro seen h1 h2 h3
    obtain ⟨p1, p2⟩ := List.pairwise_cons.1 h2
    rw [M3.namesE, h1 a (by simp), if_pos rfl, if_neg, ih _ (fun b hb => h1 b (by simp [hb])) p2 (fun b hb s hs => ?_)]
    · rcases List.mem_append.1 hs with hs | hs
      · exact h3 b (by simp [hb]) s hs
      · rw [List.mem_singleton.1 hs]; exact p1 b hb
    · intro e
      obtain ⟨s, hs, he⟩ := List.any_eq_true.1 e
      exact h3 a (by simp) s hs (M3.eqB_iff.1 he).symm
theorem values_zero (l : List Att) (h : ∀ a ∈ l, M1.isB a.value.data.toList = true) : M3.valuesE l = 0 := by
  induction l with
  | nil => rfl
  | cons a r ih => rw [M3.valuesE, h a (by simp), if_pos rfl, ih (fun b hb => h b (by simp [hb]))]
theorem last_void {o : List ByteArray} (h : ∀ nm ∈ o, M3.voidB nm.data.toList = false) : M3.voidB (lastN ⟨#[]⟩ o).data.toList = false := by
  unfold lastN
  cases ho : o.getLast? with
  | none => rfl
  | some x => exact h x (List.mem_of_getLast? ho)
def Inv8 (s : St) (rest : List Tok) : Prop :=
  elD s.d s.L ∧ GK ⟨#[]⟩ s.L ∧ (∀ nm ∈ openN s.d s.L, M3.voidB nm.data.toList = false) ∧
    (M3.rawB (lastN ⟨#[]⟩ (openN s.d s.L)).data.toList = true → (levelN s.d s.L = [] ∧ M5.RawTail (lastN ⟨#[]⟩ (openN s.d s.L)) rest) ∨ (rest = [] ∨ ∃ r, rest = ⟨2, lastN ⟨#[]⟩ (openN s.d s.L), [], ⟨#[]⟩⟩ :: r))
theorem Inv8.raw {s : St} {t : Tok} {r : List Tok} (h : Inv8 s (t :: r)) (hr : M3.rawB (lastN ⟨#[]⟩ (openN s.d s.L)).data.toList = true) :
    (t.kind = 2 ∧ t.name = lastN ⟨#[]⟩ (openN s.d s.L)) ∨ (t.kind = 3 ∧ levelN s.d s.L = [] ∧ M6.endsHere (lastN ⟨#[]⟩ (openN s.d s.L)).data.toList t.text.data.toList = true ∧ (r = [] ∨ ∃ r', r = ⟨2, lastN ⟨#[]⟩ (openN s.d s.L), [], ⟨#[]⟩⟩ :: r')) := by
  rcases h.2.2.2 hr with ⟨h1, (h2 | ⟨r', h2⟩) | ⟨c, r', h2, h3, h4⟩⟩ | h2 | ⟨r', h2⟩
  · cases h2
  · injection h2 with e1 e2; subst e1; exact .inl ⟨rfl, rfl⟩
  · injection h2 with e1 e2; subst e1 e2; exact .inr ⟨rfl, h1, h3, h4⟩
  · cases h2
  · injection h2 with e1 e2; subst e1; exact .inl ⟨rfl, rfl⟩
theorem step_inv {s : St} {t : Tok} {r : List Tok} (hok : M5.OkL (t :: r)) (h : Inv8 s (t :: r)) : Inv8 (step s t) r := by
  obtain ⟨ht, hraw, -⟩ := hok
  have hR := h.raw
  obtain ⟨he, hg, hv, hq⟩ := h
  have hokd := elD_ok he
  have hol := openN_len hokd
  have nraw : t.kind ≠ 2 → t.kind ≠ 3 → M3.rawB (lastN ⟨#[]⟩ (openN s.d s.L)).data.toList = false := fun h2 h3 => by
    cases hr : M3.rawB (lastN ⟨#[]⟩ (openN s.d s.L)).data.toList
    · rfl
    · rcases hR hr with h | h
      · exact absurd h.1 h2
      · exact absurd h.1 h3
  rcases ht with ⟨hk, hnm, hat, hval⟩ | hk | ⟨hk, hb, hne⟩ | ⟨hk, hb, hrem⟩
  · have hnr := nraw (by omega) (by omega)
    unfold step
    rw [if_pos hk]
    have hn := closeAt_le (openN s.d s.L) t.name s.d
    have hst := closeAt_stop (openN s.d s.L) t.name s.d
    show Inv8 ⟨putN (closeAt (openN s.d s.L) t.name s.d) (elT t) s.L, if _ then closeAt (openN s.d s.L) t.name s.d else closeAt (openN s.d s.L) t.name s.d + 1⟩ r
    generalize closeAt (openN s.d s.L) t.name s.d = n at *
    have k1 := elD_pre he hn
    have k0 := elD_ok k1
    have kt := openN_take hokd hn
    have k3 : ∀ nm ∈ openN n s.L, M3.voidB nm.data.toList = false := fun nm hm => hv nm (by rw [kt] at hm; exact List.mem_of_mem_take hm)
    have hqv := last_void k3
    have hqr : M3.rawB (lastN ⟨#[]⟩ (openN n s.L)).data.toList = false := by
      rcases Nat.lt_or_ge n s.d with h | h
      · exact inner_raw he hg h
      · obtain rfl : n = s.d := by omega
        exact hnr
    have hqc : M6.closesB (lastN ⟨#[]⟩ (openN n s.L)).data.toList t.name.data.toList = false := by
      rw [kt, lastN_take (by rw [hol]; exact hn)]
      split
      · exact closed_none _
      · rename_i h0
        rcases hst with h | h
        · exact absurd h h0
        · exact h
    have h1 : oneE (elT t) false = 0 := by
      unfold oneE
      rw [if_pos (show (elT t).kind = 1 from rfl)]
      unfold M3.elemE
      have e1 : M3.nilB (elT t).text = true := M3.nilB_empty
      have e2 : M3.namesE [] (elT t).attrs = 0 := names_zero t.attrs [] hat.1 hat.2 (fun _ _ s hs => (nomatch hs))
      have e3 : M3.namedB (elT t).name.data.toList = true := hnm
      rw [e1, e2, e3, if_pos rfl, if_pos rfl, if_pos rfl]
      exact values_zero t.attrs hval
    have hf : M6.fitsB (lastN ⟨#[]⟩ (openN n s.L)) (elT t) = true := by
      unfold M6.fitsB
      rw [hqv, hqr, if_neg Bool.false_ne_true, if_neg Bool.false_ne_true]
      show (!(decide ((1 : Int) = 1) && M6.closesB _ t.name.data.toList)) = true
      rw [hqc]; rfl
    have hpg : GK ⟨#[]⟩ (putN n (elT t) s.L) := put_GK (elT t) k1 hg (push_GK (level_GK k1 hg) rfl rfl (.inl ⟨by show ¬ (1 : Int) = 2; decide, h1, hf⟩))
    cases hvo : M3.voidB t.name.data.toList
    · rw [if_neg Bool.false_ne_true]
      have ho := (put_open (elT t) k0 rfl).2.1
      have hln : lastN ⟨#[]⟩ (openN (n + 1) (putN n (elT t) s.L)) = t.name := by
        rw [ho]; unfold lastN; simp; rfl
      refine ⟨elD_open rfl k1, hpg, fun nm hm => ?_, fun hr => ?_⟩
      · change nm ∈ openN (n + 1) (putN n (elT t) s.L) at hm
        rw [ho] at hm
        rcases List.mem_append.1 hm with hm | hm
        · exact k3 nm hm
        · rw [List.mem_singleton.1 hm]; exact hvo
      · change M3.rawB (lastN ⟨#[]⟩ (openN (n + 1) (putN n (elT t) s.L))).data.toList = true at hr
        show (levelN (n + 1) (putN n (elT t) s.L) = [] ∧ M5.RawTail (lastN ⟨#[]⟩ (openN (n + 1) (putN n (elT t) s.L))) r) ∨ _
        rw [hln] at hr ⊢
        exact .inl ⟨level_open rfl k0, hraw hk hr⟩
    · rw [if_pos rfl]
      have ho := (put_keeps (elT t) k0).2.1
      refine ⟨elD_put _ k1, hpg, fun nm hm => ?_, fun hr => ?_⟩
      · change nm ∈ openN n (putN n (elT t) s.L) at hm
        rw [ho] at hm
        exact k3 nm hm
      · change M3.rawB (lastN ⟨#[]⟩ (openN n (putN n (elT t) s.L))).data.toList = true at hr
        rw [ho, hqr] at hr
        cases hr
  · unfold step
    rw [if_neg (by omega), if_pos hk]
    cases hE : endAt (openN s.d s.L) t.name s.d with
    | none =>
      refine ⟨he, hg, hv, fun hr => ?_⟩
      exfalso
      have hr : M3.rawB (lastN ⟨#[]⟩ (openN s.d s.L)).data.toList = true := hr
      rcases hR hr with h | h
      · cases hd : s.d with
        | zero =>
          rw [hd] at hr
          have : lastN ⟨#[]⟩ (openN 0 s.L) = ⟨#[]⟩ := rfl
          rw [this] at hr
          exact absurd hr (by decide)
        | succ d =>
          rw [hd] at hE
          rw [endAt] at hE
          have hlast : lastN ⟨#[]⟩ (openN s.d s.L) = (openN s.d s.L).getD d ⟨#[]⟩ := by
            have := lastN_take (o := openN s.d s.L) (n := d + 1) (by omega)
            rw [List.take_of_length_le (by omega), if_neg (by omega)] at this
            exact this
          rw [hd] at hlast h
          rw [← hlast, if_pos (by rw [h.2])] at hE
          cases hE
      · omega
    | some i =>
      have hi := endAt_lt _ _ _ _ hE
      refine ⟨elD_pre he (Nat.le_of_lt hi), hg, fun nm hm => ?_, fun hr => ?_⟩
      · change nm ∈ openN i s.L at hm
        rw [openN_take hokd (Nat.le_of_lt hi)] at hm
        exact hv nm (List.mem_of_mem_take hm)
      · change M3.rawB (lastN ⟨#[]⟩ (openN i s.L)).data.toList = true at hr
        rw [inner_raw he hg hi] at hr
        cases hr
  · unfold step
    rw [if_neg (by omega), if_neg (by omega), if_pos hk]
    have ho := (put_keeps (txT t) hokd).2.1
    have hnn : M3.nilB t.text = false := by
      rw [M3.nilB_data']
      cases hq : t.text.data.toList with
      | nil => exact absurd hq hne
      | cons a b => rfl
    refine ⟨elD_put _ he, put_GK (txT t) he hg (push_GK (level_GK he hg) rfl rfl (.inr ⟨rfl, rfl, hb, hnn, last_void hv, fun hr => ?_⟩)), fun nm hm => ?_, fun hr => ?_⟩
    · rcases hR hr with h | h
      · omega
      · exact ⟨h.2.1, h.2.2.1⟩
    · change nm ∈ openN s.d (putN s.d (txT t) s.L) at hm
      rw [ho] at hm
      exact hv nm hm
    · change M3.rawB (lastN ⟨#[]⟩ (openN s.d (putN s.d (txT t) s.L))).data.toList = true at hr
      show _ ∨ (r = [] ∨ ∃ r', r = ⟨2, lastN ⟨#[]⟩ (openN s.d (putN s.d (txT t) s.L)), [], ⟨#[]⟩⟩ :: r')
      rw [ho] at hr ⊢
      rcases hR hr with h | h
      · omega
      · exact .inr h.2.2.2
  · have hnr := nraw (by omega) (by omega)
    unfold step
    rw [if_neg (by omega), if_neg (by omega), if_neg (by omega), if_pos hk]
    have ho := (put_keeps (coT t) hokd).2.1
    have hrb : M6.remB (coT t) = false := by
      unfold M6.remB M6.hasB
      show (decide ((3 : Int) = 3) && decide (M5.findL [45, 45, 62] t.text.data.toList < t.text.data.toList.length)) = false
      rw [hrem, decide_eq_false (Nat.lt_irrefl _)]; rfl
    have h1 : oneE (coT t) false = 0 := by
      unfold oneE
      rw [if_neg (show ¬ (coT t).kind = 1 by show ¬ (3 : Int) = 1; decide), if_neg (show ¬ (coT t).kind = 2 by show ¬ (3 : Int) = 2; decide), if_pos (show (coT t).kind = 3 from rfl)]
      have : M3.plainB (coT t) = true := by unfold M3.plainB; rw [show (coT t).name = ⟨#[]⟩ from rfl, M3.nilB_empty]; rfl
      rw [this, if_pos rfl]
      show (if M1.isB t.text.data.toList = true then (0 : Int) else 2) = 0
      rw [if_pos (show M1.isB t.text.data.toList = true from hb)]
    have hf : M6.fitsB (lastN ⟨#[]⟩ (openN s.d s.L)) (coT t) = true := by
      unfold M6.fitsB
      rw [last_void hv, hnr, if_neg Bool.false_ne_true, if_neg Bool.false_ne_true]
      rfl
    refine ⟨elD_put _ he, put_GK (coT t) he hg (push_GK (level_GK he hg) rfl hrb (.inl ⟨by show ¬ (3 : Int) = 2; decide, h1, hf⟩)), fun nm hm => ?_, fun hr => ?_⟩
    · change nm ∈ openN s.d (putN s.d (coT t) s.L) at hm
      rw [ho] at hm
      exact hv nm hm
    · change M3.rawB (lastN ⟨#[]⟩ (openN s.d (putN s.d (coT t) s.L))).data.toList = true at hr
      rw [ho, hnr] at hr
      cases hr
theorem run_inv (l : List Tok) : ∀ s, M5.OkL l → Inv8 s l → Inv8 (l.foldl step s) [] := by
  induction l with
  | nil => intro s _ h; exact h
  | cons t r ih => intro s hok h; exact ih _ hok.2.2 (step_inv hok h)
theorem parsed_stable {l : List UInt8} (h : M1.isB l = true) : M6.stableB (tree (M5.tokens l)) = true := by
  have hok := M5.toks_ok l.length l (Nat.le_refl _) h
  have hi := run_inv (M5.tokens l) ⟨[], 0⟩ hok ⟨trivial, GK_nil _, fun nm hm => (nomatch hm), fun hr => absurd hr (by decide)⟩
  obtain ⟨-, h1, -⟩ := hi
  unfold M6.stableB
  rw [Bool.and_eq_true]
  exact ⟨decide_eq_true h1.1, h1.2.1⟩
end M7
end Go.Proofs.YteefodibpjgicaaGreat

namespace Go.Proofs.YteefodibpjgicaaGreat
open M3 (push withText cat isText)
def szA (l : List Att) : Nat := (l.map fun a => 1 + a.name.size + a.value.size).sum
theorem szA_cons (a : Att) (r : List Att) : szA (a :: r) = 1 + a.name.size + a.value.size + szA r := by unfold szA; rw [List.map_cons, List.sum_cons]
theorem szA_snoc (l : List Att) (a : Att) : szA (l ++ [a]) = szA l + (1 + a.name.size + a.value.size) := by unfold szA; rw [List.map_append, List.sum_append]; simp
def sz : List Nd → Nat
  | [] => 0
  | .mk _ n a t ks :: r => 1 + n.size + szA a + t.size + sz ks + sz r
termination_by l => SizeOf.sizeOf l
def sz1 (x : Nd) : Nat := 1 + x.name.size + szA x.attrs + x.text.size + sz x.kids
theorem sz_nil : sz [] = 0 := by rw [sz]
theorem sz_cons (x : Nd) (r : List Nd) : sz (x :: r) = sz1 x + sz r := by cases x; rw [sz]; rfl
theorem sz_app (a b : List Nd) : sz (a ++ b) = sz a + sz b := by
  induction a with
  | nil => rw [List.nil_append, sz_nil, Nat.zero_add]
  | cons x r ih => rw [List.cons_append, sz_cons, sz_cons, ih]; omega
theorem sz_one (x : Nd) : sz [x] = sz1 x := by rw [sz_cons, sz_nil]; rfl
def tokB (t : Tok) : Nat := 1 + t.name.size + szA t.attrs + t.text.size
def bsum (l : List Tok) : Nat := (l.map tokB).sum
namespace M7
theorem sz_push (L : List Nd) (n : Nd) : sz (push L n) ≤ sz L + sz1 n := by
  cases hb : M3.bareB n
  · rcases List.eq_nil_or_concat L with rfl | ⟨A, y, rfl⟩
    · rw [M3.push_none hb, sz_one, sz_nil]; omega
    · rw [List.concat_eq_append, M3.push_snoc hb]
      split
      · rw [sz_app, sz_app, sz_one, sz_one]
        have h1 : (cat y.text n.text).size = y.text.size + n.text.size := by
          show ((y.text.data.toList ++ n.text.data.toList).toArray).size = _
          rw [List.size_toArray, List.length_append]
          rfl
        have h2 : sz1 (withText y (cat y.text n.text)) = 1 + y.name.size + szA y.attrs + (cat y.text n.text).size + sz y.kids := rfl
        rw [h2, h1]
        unfold sz1
        omega
      · rw [sz_app (A ++ [y]), sz_one]; omega
  · rw [M3.push_bare hb]; omega
theorem sz_put {d : Nat} (n : Nd) : ∀ {L : List Nd}, okD d L → sz (putN d n L) ≤ sz L + sz1 n := by
  induction d with
  | zero => intro L _; exact sz_push L n
  | succ d ih =>
    intro L h
    rcases List.eq_nil_or_concat L with rfl | ⟨A, x, rfl⟩
    · exact h.elim
    · rw [List.concat_eq_append] at *
      rw [okD_snoc] at h
      rw [putN_snoc, sz_app, sz_app, sz_one, sz_one]
      have := ih h
      have h2 : sz1 (wk x (putN d n x.kids)) = 1 + x.name.size + szA x.attrs + x.text.size + sz (putN d n x.kids) := rfl
      rw [h2]
      unfold sz1 at *
      omega
theorem sz_step {s : St} (t : Tok) (h : s.ok) : sz (step s t).L ≤ sz s.L + tokB t := by
  have e1 : sz1 (elT t) ≤ tokB t := by
    show 1 + t.name.size + szA t.attrs + 0 + sz [] ≤ _
    rw [sz_nil]; unfold tokB; omega
  have e2 : sz1 (txT t) ≤ tokB t := by
    show 1 + 0 + 0 + t.text.size + sz [] ≤ _
    rw [sz_nil]; unfold tokB; omega
  have e3 : sz1 (coT t) ≤ tokB t := by
    show 1 + 0 + 0 + t.text.size + sz [] ≤ _
    rw [sz_nil]; unfold tokB; omega
  unfold step
  split
  · have hn := closeAt_le (openN s.d s.L) t.name s.d
    have := sz_put (elT t) (okD_pre h hn)
    show sz (putN _ _ _) ≤ _
    omega
  split
  · split <;> (show sz s.L ≤ _; omega)
  split
  · have := sz_put (txT t) h
    show sz (putN _ _ _) ≤ _
    omega
  split
  · have := sz_put (coT t) h
    show sz (putN _ _ _) ≤ _
    omega
  · omega
theorem sz_run (l : List Tok) : sz (tree l) ≤ bsum l := by
  have key : ∀ (l : List Tok) (s : St), s.ok → sz (l.foldl step s).L ≤ sz s.L + bsum l := by
    intro l
    induction l with
    | nil => intro s _; show sz s.L ≤ sz s.L + 0; omega
    | cons t r ih =>
      intro s h
      have h1 := ih _ (step_ok t h)
      have h2 := sz_step t h
      have h3 : bsum (t :: r) = tokB t + bsum r := by unfold bsum; rw [List.map_cons, List.sum_cons]
      rw [List.foldl_cons]
      omega
  have := key l ⟨[], 0⟩ trivial
  have e : sz (⟨[], 0⟩ : St).L = 0 := sz_nil
  rw [e] at this
  unfold tree run
  omega
end M7
namespace M5
theorem val_len (l : List UInt8) : (valC l).1.length + (valC l).2.length ≤ l.length := by
  unfold valC
  cases l with
  | nil => exact Nat.le_refl _
  | cons q t =>
    show (if q = 34 ∨ q = 39 then quoted q t else _ : List UInt8 × List UInt8).1.length + (if q = 34 ∨ q = 39 then quoted q t else _ : List UInt8 × List UInt8).2.length ≤ _
    split
    · have := congrArg List.length (List.takeWhile_append_dropWhile (p := (· != q)) (l := t))
      rw [List.length_append] at this
      unfold quoted
      show (t.takeWhile _).length + ((t.dropWhile _).drop 1).length ≤ _
      rw [List.length_drop, List.length_cons]
      omega
    · have := congrArg List.length (List.takeWhile_append_dropWhile (p := bareB) (l := q :: t))
      rw [List.length_append] at this
      show ((q :: t).takeWhile bareB).length + ((q :: t).dropWhile bareB).length ≤ _
      omega
theorem att_B (c : UInt8) (r : List UInt8) (ho : overB c = false) (h62 : c ≠ 62) : 1 + (attC (c :: r)).1.name.size + (attC (c :: r)).1.value.size + 5 * (attC (c :: r)).2.length ≤ 5 * (c :: r).length := by
  have hk := over_gt ho h62
  have hs := congrArg List.length (List.takeWhile_append_dropWhile (p := keyB) (l := c :: r))
  rw [List.length_append] at hs
  have h1 : 1 ≤ ((c :: r).takeWhile keyB).length := by rw [List.takeWhile_cons, hk, if_pos rfl]; simp
  have hd := (List.dropWhile_suffix (l := (c :: r).dropWhile keyB) blankB).length_le
  have hn : (attC (c :: r)).1.name.size = ((c :: r).takeWhile keyB).length := by rw [attC_name, bs_sz, fold_len]
  rw [hn]
  by_cases hx : ∃ z, ((c :: r).dropWhile keyB).dropWhile blankB = 61 :: z
  · obtain ⟨z, hx⟩ := hx
    rw [attC_61 _ z hx]
    rw [hx, List.length_cons] at hd
    have h2 := (List.dropWhile_suffix (l := z) blankB).length_le
    have h3 := val_len (z.dropWhile blankB)
    have h4 := M2.decode_len (valC (z.dropWhile blankB)).1.length (valC (z.dropWhile blankB)).1 (Nat.le_refl _)
    show 1 + _ + (bs _).size + 5 * (valC (z.dropWhile blankB)).2.length ≤ _
    rw [bs_sz]
    omega
  · rw [attC_ne _ (fun z e => hx ⟨z, e⟩)]
    show 1 + _ + 0 + 5 * (((c :: r).dropWhile keyB).dropWhile blankB).length ≤ _
    omega
theorem addT_sz (acc : List Att) (a : Att) : szA (addT acc a) ≤ szA acc + (1 + a.name.size + a.value.size) := by
  unfold addT
  split
  · omega
  · rw [szA_snoc]; omega
theorem atts_B : ∀ (n : Nat) (l : List UInt8) (acc as_ : List Att) (r : List UInt8), l.length ≤ n → attsR l acc = some (as_, r) → szA as_ + 5 * r.length ≤ szA acc + 5 * l.length := by
  intro n
  induction n with
  | zero =>
    intro l acc as_ r hl h
    obtain rfl : l = [] := List.eq_nil_of_length_eq_zero (by omega)
    rw [attsR_nil] at h; cases h
  | succ n ih =>
    intro l acc as_ r hl h
    rw [atts_over] at h
    have hle := (List.dropWhile_suffix (l := l) overB).length_le
    cases hd : l.dropWhile overB with
    | nil => rw [hd, attsR_nil] at h; cases h
    | cons c t =>
      have hov := over_head l c t hd
      rw [hd] at h hle
      by_cases h62 : c = 62
      · rw [attsR_cons, if_pos h62] at h
        cases h
        simp only [List.length_cons] at hle
        omega
      · rw [atts_one c t acc hov h62] at h
        have hlt := attC_lt c t hov h62
        have h1 := att_B c t hov h62
        have h2 := addT_sz acc (attC (c :: t)).1
        have := ih _ _ _ _ (by simp only [List.length_cons] at hlt hle; omega) h
        omega
theorem tag_B (l : List UInt8) (h : startsB l = true) : tokB (tagR l).1 + 5 * (tagR l).2.length ≤ 5 * l.length := by
  match l with
  | [] => cases h
  | [c] => cases h
  | c :: d :: r =>
    have hlen : (c :: d :: r).length = r.length + 2 := rfl
    rw [tagR, if_pos h]
    show tokB (if letterB d then _ else _ : Tok × List UInt8).1 + 5 * (if letterB d then _ else _ : Tok × List UInt8).2.length ≤ _
    split
    · rw [begin_eq]
      cases ha : attsR (((c :: d :: r).drop 1).dropWhile nameB) [] with
      | none => show 1 + 0 + 0 + 0 + 5 * 0 ≤ _; omega
      | some p =>
        have h1 := atts_B _ _ _ p.1 p.2 (Nat.le_refl _) ha
        have h3 : ((c :: d :: r).drop 1).length = r.length + 1 := rfl
        have h4 := congrArg List.length (List.takeWhile_append_dropWhile (p := nameB) (l := (c :: d :: r).drop 1))
        rw [List.length_append, h3] at h4
        have h0 : szA [] = 0 := rfl
        show 1 + (bs _).size + szA p.1 + 0 + 5 * p.2.length ≤ _
        rw [bs_sz, fold_len]
        omega
    · split
      · have h1 := upto_Q [45, 45, 62] ((c :: d :: r).drop 4)
        rw [List.length_drop] at h1
        show 1 + 0 + 0 + (bs _).size + 5 * (uptoR [45, 45, 62] ((c :: d :: r).drop 4)).2.length ≤ _
        rw [bs_sz]
        omega
      · split
        · show 1 + 0 + 0 + 0 + 5 * ((c :: d :: r).drop 3).length ≤ _
          rw [List.length_drop]; omega
        · split
          · split
            · have h4 := tw_len nameB r
              show 1 + (bs _).size + 0 + 0 + 5 * (r.drop _).length ≤ _
              rw [bs_sz, fold_len, List.length_drop]
              have := findL_le [62] r
              have h5 : (r.takeWhile nameB).length ≤ findL [62] r := by
                rw [findL_span]
                unfold spanN
                have : ∀ l : List UInt8, (l.takeWhile nameB).length ≤ (l.takeWhile (· != 62)).length := by
                  intro l
                  induction l with
                  | nil => exact Nat.le_refl _
                  | cons a t ih =>
                    rw [List.takeWhile_cons, List.takeWhile_cons]
                    split
                    · rename_i hn
                      have : (a != 62) = true := by
                        rw [bne_iff_ne]; rintro rfl; exact absurd hn (by decide)
                      rw [this, if_pos rfl]
                      simp only [List.length_cons]; omega
                    · simp
                exact this r
              omega
            · show 1 + 0 + 0 + 0 + 5 * 0 ≤ _; omega
          · have h1 := upto_Q [62] r
            show 1 + 0 + 0 + (bs _).size + 5 * (uptoR [62] r).2.length ≤ _
            rw [bs_sz]; omega
theorem bsum_app (a b : List Tok) : bsum (a ++ b) = bsum a + bsum b := by unfold bsum; rw [List.map_append, List.sum_append]
theorem bsum_nil : bsum [] = 0 := rfl
theorem bsum_one (t : Tok) : bsum [t] = tokB t := by unfold bsum; simp
theorem chars_B (p : List UInt8) : bsum (charsT p) ≤ 5 * p.length := by
  unfold charsT
  cases p with
  | nil => exact Nat.le_refl _
  | cons c r =>
    have h := M2.decode_len (c :: r).length (c :: r) (Nat.le_refl _)
    rw [if_neg (by simp), bsum_one]
    show 1 + 0 + 0 + (bs _).size ≤ _
    rw [bs_sz]; simp only [List.length_cons] at *; omega
theorem asIs_B (p : List UInt8) : bsum (asIs p) ≤ 5 * p.length := by
  unfold asIs
  cases p with
  | nil => exact Nat.le_refl _
  | cons c r =>
    rw [if_neg (by simp), bsum_one]
    show 1 + 0 + 0 + (bs _).size ≤ _
    rw [bs_sz]; simp only [List.length_cons] at *; omega
theorem raw_B (t : Tok) (l : List UInt8) : bsum (rawT t l).1 + 5 * (rawT t l).2.length ≤ 5 * l.length := by
  unfold rawT
  split
  · have hle := endN_le t.name.data.toList l
    have h := asIs_B (l.take (endN t.name.data.toList l))
    have hl : (l.take (endN t.name.data.toList l)).length = endN t.name.data.toList l := by rw [List.length_take]; omega
    show bsum (asIs _) + 5 * (l.drop _).length ≤ _
    rw [List.length_drop]; omega
  · show bsum [] + 5 * l.length ≤ _
    rw [bsum_nil]; omega
theorem toks_B : ∀ (n : Nat) (l p : List UInt8), l.length ≤ n → bsum (toksR p l) ≤ 5 * (p.length + l.length) := by
  intro n
  induction n with
  | zero =>
    intro l p hl
    obtain rfl : l = [] := List.eq_nil_of_length_eq_zero (by omega)
    rw [toksR_nil]
    exact chars_B p
  | succ n ih =>
    intro l p hl
    cases l with
    | nil => rw [toksR_nil]; exact chars_B p
    | cons c r =>
      cases hs : startsB (c :: r)
      · rw [toksR_text p c r hs]
        have := ih r (p ++ [c]) (by simp at hl; omega)
        rw [List.length_append, List.length_singleton] at this
        rw [List.length_cons, show p.length + (r.length + 1) = p.length + 1 + r.length by omega]
        exact this
      · rw [toksR_tag p _ hs]
        have hlt := tag_lt _ hs
        have t2 := tag_B _ hs
        have hc := chars_B p
        have r1 := raw_B (tagR (c :: r)).1 (tagR (c :: r)).2
        have r2 := (raw_Q (tagR (c :: r)).1 (tagR (c :: r)).2).2.1
        generalize rawT (tagR (c :: r)).1 (tagR (c :: r)).2 = W at *
        generalize tagR (c :: r) = T at *
        generalize c :: r = L at *
        have i1 := ih W.2 [] (by omega)
        rw [List.length_nil, Nat.zero_add] at i1
        have hk : bsum (if T.1.kind ≠ 0 then [T.1] else []) ≤ tokB T.1 := by
          split
          · rw [bsum_one]; exact Nat.le_refl _
          · exact Nat.zero_le _
        rw [bsum_app, bsum_app, bsum_app]
        omega
end M5
theorem parsed_sz (l : List UInt8) : sz (M7.tree (M5.tokens l)) ≤ 5 * l.length := by
  have h1 := M7.sz_run (M5.tokens l)
  have h2 := M5.toks_B l.length l [] (Nat.le_refl _)
  rw [List.length_nil, Nat.zero_add] at h2
  rw [M5.tokens_eq] at *
  omega
end Go.Proofs.YteefodibpjgicaaGreat

namespace Go.Proofs.YteefodibpjgicaaGreat
open M5 (TB qs qs_app qs_one)
theorem atts_text_len (l : List Att) : (M4.attsB l).length ≤ 7 * szA l := by
  induction l with
  | nil => exact Nat.le_refl _
  | cons a r ih =>
    have e : M4.attsB (a :: r) = M4.attB a ++ M4.attsB r := by unfold M4.attsB; rw [List.flatMap_cons]
    have h := M2.escape_len true a.value.data.toList
    have h2 : (M4.attB a).length = 4 + a.name.size + (M2.escape true a.value.data.toList).length := by
      unfold M4.attB
      simp only [List.length_cons, List.length_append, List.length_nil]
      have : a.name.data.toList.length = a.name.size := rfl
      omega
    have h3 : a.value.data.toList.length = a.value.size := rfl
    rw [e, List.length_append, szA_cons]
    omega
theorem text_len8 (l : List Nd) : ∀ raw, (M4.textB raw l).length ≤ 7 * sz l := by
  induction l using Nd.ind with
  | h0 => intro raw; rw [M4.textB_nil]; exact Nat.zero_le _
  | h1 k n a t ks r ih1 ih2 =>
    intro raw
    rw [M4.textB_cons, List.length_append, sz_cons]
    have h2 := ih2 raw
    have h1 : (M4.oneB raw (.mk k n a t ks)).length ≤ 7 * sz1 (.mk k n a t ks) := by
      have e : sz1 (.mk k n a t ks) = 1 + n.size + szA a + t.size + sz ks := rfl
      rw [e]
      unfold M4.oneB
      by_cases hk1 : k = 1
      · rw [if_pos (show (Nd.mk k n a t ks).kind = 1 from hk1)]
        show (M4.headB n a ++ ((if M3.voidB n.data.toList = true then [] else M4.textB (M3.rawB n.data.toList) ks) ++ M4.endB n)).length ≤ _
        rw [List.length_append, List.length_append, M4.headB_len]
        have h3 := M4.endB_len n
        have h4 := atts_text_len a
        have h5 : (if M3.voidB n.data.toList = true then [] else M4.textB (M3.rawB n.data.toList) ks).length ≤ 7 * sz ks := by
          split
          · exact Nat.zero_le _
          · exact ih1 _
        omega
      rw [if_neg (show ¬ (Nd.mk k n a t ks).kind = 1 from hk1)]
      by_cases hk2 : k = 2
      · rw [if_pos (show (Nd.mk k n a t ks).kind = 2 from hk2)]
        show (M4.charsB raw t).length ≤ _
        have h3 : t.data.toList.length = t.size := rfl
        unfold M4.charsB
        split
        · omega
        · have := M2.escape_len false t.data.toList
          omega
      rw [if_neg (show ¬ (Nd.mk k n a t ks).kind = 2 from hk2)]
      by_cases hk3 : k = 3
      · rw [if_pos (show (Nd.mk k n a t ks).kind = 3 from hk3)]
        show (M4.commB t).length ≤ _
        unfold M4.commB
        simp only [List.length_append, List.length_cons, List.length_nil]
        have h3 : t.data.toList.length = t.size := rfl
        omega
      · rw [if_neg (show ¬ (Nd.mk k n a t ks).kind = 3 from hk3)]
        exact Nat.zero_le _
    omega
theorem atts_len_sz (l : List Att) : l.length ≤ szA l := by
  induction l with
  | nil => exact Nat.le_refl _
  | cons a r ih => rw [szA_cons, List.length_cons]; omega
theorem att_mem_sz {l : List Att} {a : Att} (h : a ∈ l) : a.name.size ≤ szA l ∧ a.value.size ≤ szA l := by
  induction l with
  | nil => exact (nomatch h)
  | cons b r ih =>
    rw [szA_cons]
    rcases List.mem_cons.1 h with rfl | h
    · omega
    · have := ih h; omega
theorem weight_sz (l : List Nd) : M3.weight l ≤ sz l := by
  induction l using Nd.ind with
  | h0 => rw [M3.weight_nil]; exact Nat.zero_le _
  | h1 k n a t ks r ih1 ih2 =>
    rw [M3.weight_cons, sz_cons]
    show 1 + a.length + M3.weight ks + M3.weight r ≤ (1 + n.size + szA a + t.size + sz ks) + sz r
    have := atts_len_sz a
    omega
theorem fit_sz8 (l : List Nd) : sz l ≤ 900000 → FitN l := by
  induction l using Nd.ind with
  | h0 => intro _; exact fitN_nil
  | h1 k n a t ks r ih1 ih2 =>
    intro h
    rw [sz_cons] at h
    have e : sz1 (.mk k n a t ks) = 1 + n.size + szA a + t.size + sz ks := rfl
    rw [e] at h
    have h1 := atts_len_sz a
    have h2 := weight_sz ks
    refine fitN_cons.2 ⟨⟨?_, ?_, ?_, ?_⟩, ih1 (by omega), ih2 (by omega)⟩
    · show n.size ≤ _; omega
    · show t.size ≤ _; omega
    · intro b hb
      have := att_mem_sz (show b ∈ a from hb)
      exact ⟨by omega, by omega⟩
    · show 1 + a.length + M3.weight ks ≤ _; omega
theorem toksN_Q (l : List Nd) : qs (M7.toksN l) ≤ 2 * sz l ∧ ∀ t ∈ M7.toksN l, TB (sz l) t := by
  induction l using Nd.ind with
  | h0 => rw [M7.toksN_nil]; exact ⟨Nat.zero_le _, fun t h => (nomatch h)⟩
  | h1 k n a t ks r ih1 ih2 =>
    obtain ⟨i1, i2⟩ := ih1
    obtain ⟨j1, j2⟩ := ih2
    have e : sz (.mk k n a t ks :: r) = 1 + n.size + szA a + t.size + sz ks + sz r := by rw [sz_cons]; rfl
    have h1 := atts_len_sz a
    rw [M7.toksN_cons, qs_app, e]
    have key : qs (M7.tokOne (.mk k n a t ks)) ≤ 2 * (1 + n.size + szA a + t.size + sz ks) ∧ ∀ u ∈ M7.tokOne (.mk k n a t ks), TB (1 + n.size + szA a + t.size + sz ks) u := by
      have hb : TB (1 + n.size + szA a + t.size + sz ks) ⟨1, n, a, ⟨#[]⟩⟩ := by
        refine ⟨?_, ?_, ?_, .inl rfl⟩
        · show n.size ≤ _; omega
        · show (0 : Nat) ≤ _; omega
        · show a.length ≤ _; omega
      have hen : TB (1 + n.size + szA a + t.size + sz ks) ⟨2, n, [], ⟨#[]⟩⟩ := by
        refine ⟨?_, ?_, ?_, .inr (.inl rfl)⟩
        · show n.size ≤ _; omega
        · show (0 : Nat) ≤ _; omega
        · show (0 : Nat) ≤ _; omega
      have htx : ∀ k', (k' = 3 ∨ k' = 4) → TB (1 + n.size + szA a + t.size + sz ks) ⟨k', ⟨#[]⟩, [], t⟩ := fun k' hk => by
        refine ⟨?_, ?_, ?_, .inr (.inr hk)⟩
        · show (0 : Nat) ≤ _; omega
        · show t.size ≤ _; omega
        · show (0 : Nat) ≤ _; omega
      unfold M7.tokOne
      by_cases hk1 : k = 1
      · rw [if_pos (show (Nd.mk k n a t ks).kind = 1 from hk1)]
        show qs (⟨1, n, a, ⟨#[]⟩⟩ :: (if M3.voidB n.data.toList = true then [] else M7.toksN ks ++ [⟨2, n, [], ⟨#[]⟩⟩])) ≤ _ ∧ ∀ u ∈ (⟨1, n, a, ⟨#[]⟩⟩ :: (if M3.voidB n.data.toList = true then [] else M7.toksN ks ++ [⟨2, n, [], ⟨#[]⟩⟩]) : List Tok), _
        have hq1 : ∀ (x : Tok) (y : List Tok), qs (x :: y) = tokQ x + qs y := fun x y => by unfold qs; rw [List.map_cons, List.sum_cons]
        have hq2 : tokQ ⟨1, n, a, ⟨#[]⟩⟩ = 1 + a.length + 0 := rfl
        have hq3 : tokQ ⟨2, n, [], ⟨#[]⟩⟩ = 1 := rfl
        split
        · refine ⟨by rw [hq1, hq2]; show _ + 0 ≤ _; omega, fun u hu => ?_⟩
          obtain rfl := List.mem_singleton.1 hu
          exact hb
        · refine ⟨by rw [hq1, hq2, qs_app, qs_one, hq3]; omega, fun u hu => ?_⟩
          rcases List.mem_cons.1 hu with rfl | hu
          · exact hb
          rcases List.mem_append.1 hu with hu | hu
          · exact (i2 u hu).mono (by omega)
          · obtain rfl := List.mem_singleton.1 hu
            exact hen
      rw [if_neg (show ¬ (Nd.mk k n a t ks).kind = 1 from hk1)]
      split
      · refine ⟨by rw [qs_one]; show 1 + 0 + t.size ≤ _; omega, fun u hu => ?_⟩
        obtain rfl := List.mem_singleton.1 hu
        exact htx 3 (.inl rfl)
      · refine ⟨by rw [qs_one]; show 1 + 0 + t.size ≤ _; omega, fun u hu => ?_⟩
        obtain rfl := List.mem_singleton.1 hu
        exact htx 4 (.inr rfl)
    refine ⟨by omega, fun u hu => ?_⟩
    rcases List.mem_append.1 hu with hu | hu
    · exact (key.2 u hu).mono (by omega)
    · exact (j2 u hu).mono (by omega)
theorem fitL_toksN {l : List Nd} (h : sz l ≤ 200000) : FitL (M7.toksN l) := by
  obtain ⟨h1, h2⟩ := toksN_Q l
  refine ⟨by unfold qs at h1; omega, fun t ht => ?_⟩
  obtain ⟨a, b, c, d⟩ := h2 t ht
  refine ⟨⟨by omega, by omega, by omega⟩, ?_⟩
  rcases d with e | e | e | e <;> rw [e] <;> decide
theorem stable_fit {l : List Nd} (hs : M6.stableB l = true) (h : sz l ≤ 200000) : FitL (M5.tokens (M4.textB false l)) := by
  unfold M6.stableB at hs
  rw [Bool.and_eq_true] at hs
  have hm : M3.mayE false l = 0 := by simpa using hs.1
  have := M5.toks_nodes l false [] (.inl rfl) hs.2 hm
  rw [List.append_nil, M5.toksR_nil] at this
  rw [M5.tokens_eq, this]
  show FitL (M7.toksN l ++ [])
  rw [List.append_nil]
  exact fitL_toksN h
end Go.Proofs.YteefodibpjgicaaGreat

namespace Go.Proofs.YteefodibpjgicaaGreat
open Go.RowKit
theorem parsed_all (b : List UInt8) (hb : b.length ≤ 300) : ∃ L, M7.tree (M5.tokens (M1.right b)) = L ∧ M6.stableB L = true ∧ M3.mayE false L = 0 ∧ FitN L ∧ (M4.textB false L).length ≤ 1073741824 ∧ FitL (M5.tokens (M4.textB false L)) ∧ sz L ≤ 6000 := by
  refine ⟨_, rfl, ?_⟩
  have h1 := M7.parsed_stable (M1.isB_right b)
  have h2 := parsed_sz (M1.right b)
  have h3 := M1.right_len b
  generalize M7.tree (M5.tokens (M1.right b)) = L at *
  have h4 := text_len8 L false
  refine ⟨h1, ?_, fit_sz8 L (by omega), by omega, stable_fit h1 (by omega), by omega⟩
  unfold M6.stableB at h1
  rw [Bool.and_eq_true] at h1
  simpa using h1.1
end Go.Proofs.YteefodibpjgicaaGreat

namespace Go.Proofs.YteefodibpjgicaaGreat
open Go.RowKit
def deepN : List Nd → Nat
  | [] => 0
  | .mk k _ _ _ ks :: r => max (if k = 1 then 1 + deepN ks else 0) (deepN r)
termination_by l => SizeOf.sizeOf l
def deep1 (x : Nd) : Nat := if x.kind = 1 then 1 + deepN x.kids else 0
theorem deepN_nil : deepN [] = 0 := by rw [deepN]
theorem deepN_cons (x : Nd) (r : List Nd) : deepN (x :: r) = max (deep1 x) (deepN r) := by cases x; rw [deepN]; rfl
theorem deepN_snoc (A : List Nd) (x : Nd) : deepN (A ++ [x]) = max (deepN A) (deep1 x) := by
  induction A with
  | nil => rw [List.nil_append, deepN_cons, deepN_nil]; omega
  | cons y r ih => rw [List.cons_append, deepN_cons, deepN_cons, ih]; omega
theorem deepN_take (l : List Nd) (i : Nat) (h : i < l.length) : deepN (l.take (i + 1)) = max (deepN (l.take i)) (deep1 l[i]) := by
  rw [List.take_succ_eq_append_getElem h, deepN_snoc]
theorem deepN_weight (l : List Nd) : deepN l ≤ M3.weight l := by
  induction l using Nd.ind with
  | h0 => rw [deepN_nil]; exact Nat.zero_le _
  | h1 k n a t ks r ih1 ih2 =>
    rw [deepN_cons, M3.weight_cons]
    show max (deep1 (.mk k n a t ks)) _ ≤ 1 + a.length + M3.weight ks + M3.weight r
    unfold deep1
    split
    · show max (1 + deepN ks) _ ≤ _; omega
    · omega
set_option maxHeartbeats 4000000 in
set_option maxRecDepth 100000 in
theorem parSettle (v : Value) (b : List UInt8) (L : List Nd) (w : World) (hg : Glo w) (hs : Sl w v (u8s b)) (hb : b.length ≤ 300) (hL : M7.tree (M5.tokens (M1.right b)) = L) (hst : M6.stableB L = true) (hfit : FitN L) (htl : (M4.textB false L).length ≤ 1073741824) (hft : FitL (M5.tokens (M4.textB false L))) :
    Calls Tryz.prog 24 #[v] w fun e w' => e = .returned (.tuple #[.string ⟨(M4.textB false L).toArray⟩, .int .i64 0]) ∧ Below w.heap.size w w' := by
  have hW := Lib.hid (parWritten (fun _ => False) (.iface 46 v) 3 L w hg (fun _ h => h.elim) (.inl ⟨rfl, v, b, rfl, hs, by omega, hL⟩) hfit (by omega))
  have ht := M5.tree_text hst
  have hW2 := Lib.hid (fun W (hb : Below w.heap.size w W) => parWritten (fun _ => False) (.iface 47 (.string (M5.bs (M4.textB false L)))) 2 L W (hg.below hb (Nat.le_refl _)) (fun _ h => h.elim) (.inr (.inl ⟨rfl, _, rfl, by rw [bs_size]; exact htl, by rw [M5.bs_data]; exact hft, by rw [M5.bs_data]; exact ht⟩)) hfit (by omega))
  obtain ⟨a, cap, rfl, -, -⟩ := hs.len8
  clear hs ht hL hft htl
  obtain ⟨wo, rfl⟩ : ∃ wo : World, wo = w := ⟨_, rfl⟩
  go_enter Tryz.func24, Tryz.ntmps24
  go_wp2_with fail
  refine hW.out.mono ?_
  rintro e w1 ⟨rfl, hb1⟩
  clear hW
  go_wp2_with fail
  go_loopw [4, 5] (fun u4 u5 wr => u4 = .string ⟨(M4.textB false L).toArray⟩ ∧ u5 = .int .i64 0 ∧ Below wo.heap.size wo wr) (fun _ _ _ => 0)
  case atStart => exact ⟨rfl, rfl, hb1⟩
  case round =>
    obtain ⟨rfl, rfl, hbr⟩ := hrel
    have hW3 := Lib.hid (hW2.out _ hbr)
    clear hW2
    go_wp2_with fail
    refine hW3.out.mono ?_
    rintro e w2 ⟨rfl, hb2⟩
    have hb02 := bt hbr hb2
    go_wp2_with fail
    exact bodyPost_ret (v := .tuple #[.string ⟨(M4.textB false L).toArray⟩, .int .i64 0]) (by simp [results, Tryz.results24, go_sem]) rfl ⟨rfl, hb02⟩
set_option maxHeartbeats 4000000 in
set_option maxRecDepth 100000 in
theorem ref08Settle (v : Value) (b : List UInt8) (L : List Nd) (w : World) (hs : Sl w v (u8s b)) (hb : b.length ≤ 300) (hL : M7.tree (M5.tokens (M1.right b)) = L) (hst : M6.stableB L = true) (hfit : FitN L) (htl : (M4.textB false L).length ≤ 1000000) (hft : REF8 (M4.textB false L)) :
    Calls Tryz.prog 25 #[v] w fun e w' => e = .returned (.tuple #[.string ⟨(M4.textB false L).toArray⟩, .int .i64 0]) ∧ Below w.heap.size w w' := by
  have hB := Lib.hid (ref08Bytes v b w hs (by omega))
  rw [hL] at hB
  have ht := M5.tree_text hst
  have hT := Lib.hid (fun (W : World) (v : Value) (S : Nat → Prop) (hS : ∀ b, S b → b < W.heap.size) (hr : RepN S W v L) => ref04Text S v L W hS hr hfit (by omega))
  have hP := Lib.hid (fun W => ref08Text (M5.bs (M4.textB false L)) W (by rw [bs_size]; omega) (by rw [M5.bs_data]; exact hft))
  rw [M5.bs_data, ht] at hP
  obtain ⟨a, cap, rfl, -, -⟩ := hs.len8
  clear hs ht hL htl hft
  obtain ⟨wo, rfl⟩ : ∃ wo : World, wo = w := ⟨_, rfl⟩
  go_enter Tryz.func25, Tryz.ntmps25
  go_wp2_with fail
  refine hB.out.mono ?_
  rintro e w1 ⟨v1, rfl, hr1, hb1⟩
  have hT1 := Lib.hid (hT.out w1 v1 _ (fun b h => h) (shr_lt hr1))
  obtain ⟨a1, c1, rfl⟩ := hr1.slice
  clear hr1 hB
  go_wp2_with fail
  refine hT1.out.mono ?_
  rintro e w2 ⟨rfl, hb2⟩
  have hb02 := bt hb1 hb2
  clear hT1
  go_wp2_with fail
  go_loopw [4, 5] (fun u4 u5 wr => u4 = .string ⟨(M4.textB false L).toArray⟩ ∧ u5 = .int .i64 0 ∧ Below wo.heap.size wo wr) (fun _ _ _ => 0)
  case atStart => exact ⟨rfl, rfl, hb02⟩
  case round =>
    obtain ⟨rfl, rfl, hbr⟩ := hrel
    have hP3 := Lib.hid (hP.out wr)
    clear hP
    go_wp2_with fail
    refine hP3.out.mono ?_
    rintro e w3 ⟨v3, rfl, hr3, hb3⟩
    have hT3 := Lib.hid (hT.out w3 v3 _ (fun b h => h) (shr_lt hr3))
    have hb03 := bt hbr hb3
    obtain ⟨a3, c3, rfl⟩ := hr3.slice
    clear hr3 hP3 hT
    go_wp2_with fail
    refine hT3.out.mono ?_
    rintro e w4 ⟨rfl, hb4⟩
    have hb04 := bt hb03 hb4
    go_wp2_with fail
    exact bodyPost_ret (v := .tuple #[.string ⟨(M4.textB false L).toArray⟩, .int .i64 0]) (by simp [results, Tryz.results25, go_sem]) rfl ⟨rfl, hb04⟩
theorem weight_take8 (l : List Nd) (i : Nat) : M3.weight (l.take i) ≤ M3.weight l := by
  have h : M3.weight l = M3.weight (l.take i) + M3.weight (l.drop i) := by rw [← M3.weight_append, List.take_append_drop]
  omega
set_option maxHeartbeats 4000000 in
set_option maxRecDepth 100000 in
theorem ref08Deep (wt : Nat) : ∀ (S : Nat → Prop) (v : Value) (l : List Nd) (w : World), M3.weight l < wt → M3.weight l ≤ 1000000 → (∀ b, S b → b < w.heap.size) → RepN S w v l →
    Calls Tryz.prog 28 #[v] w (IntPost (deepN l : Nat) w) := by
  induction wt with
  | zero => intro S v l w h; omega
  | succ wt ih =>
  intro S v l w hwt hw6 hS hr
  obtain ⟨a, cap, rfl⟩ := hr.slice
  obtain ⟨wo, rfl⟩ : ∃ wo : World, wo = w := ⟨_, rfl⟩
  replace ih := Lib.hid ih
  go_enter Tryz.func28, Tryz.ntmps28
  go_wp2_with fail
  go_loopw [3, 4] (fun u3 u4 wr => ∃ i : Nat, i ≤ l.length ∧ u4 = .int .i64 (i : Int) ∧ u3 = .int .i64 (deepN (l.take i) : Nat) ∧ Below wo.heap.size wo wr) (fun _ u4 _ => l.length - (intOf u4).toNat)
  case atStart => exact ⟨0, by omega, rfl, by rw [List.take_zero, deepN_nil]; rfl, Below.refl _ _⟩
  case round =>
    obtain ⟨i, hi, rfl, rfl, hb⟩ := hrel
    have hz := hb.size
    have hl6 := M3.length_le_weight l
    by_cases hlt : i < l.length
    · obtain ⟨b, off, va, vk, rfl, hSb, y0, -, -, -, y4, hrv⟩ := (hr.below hS hb).at_ i hlt
      have htk := deepN_take l i hlt
      have hwl := weight_le (List.getElem_mem hlt)
      have hdw := deepN_weight (l.take i)
      have hwt' : M3.weight (l.take i) ≤ M3.weight l := weight_take8 l i
      have hdk := deepN_weight l[i].kids
      have hC := Lib.hid (fun (hk : l[i].kind = 1) => ih.out S vk l[i].kids wr (by omega) (by omega) (fun b h => by have := hS b h; omega) hrv.2)
      obtain ⟨ak, ck, rfl⟩ := hrv.2.slice
      generalize l[i] = x at *
      have hI0 : (0 : Int) ≤ (i : Int) := by omega
      have hI1 : (i : Int) < (l.length : Int) := by omega
      replace hr := Lib.hid hr
      clear hrv
      by_cases hk : x.kind = 1
      · have hkd : decide (x.kind = 1) = true := decide_eq_true hk
        rw [hk] at y0
        have hC1 := Lib.hid (hC.out hk)
        have hd1 : deep1 x = 1 + deepN x.kids := if_pos hk
        rw [hd1] at htk
        clear hC
        go_wp2_with fail
        refine hC1.out.mono ?_
        rintro e w2 ⟨rfl, hb2⟩
        have hb02 := bt hb hb2
        clear hC1
        by_cases hgt : deepN (l.take i) < 1 + deepN x.kids
        · have hgd : decide ((deepN (l.take i) : Int) < 1 + (deepN x.kids : Int)) = true := decide_eq_true (by omega)
          go_wp2_with fail
          go_roundw
          case rel => exact ⟨i + 1, by omega, by go_num, by rw [htk, Nat.max_eq_right (by omega)]; go_num, hb02⟩
          case measure => exact meas_nat hlt
        · have hgd : decide ((deepN (l.take i) : Int) < 1 + (deepN x.kids : Int)) = false := decide_eq_false (by omega)
          go_wp2_with fail
          go_roundw
          case rel => exact ⟨i + 1, by omega, by go_num, by rw [htk, Nat.max_eq_left (by omega)], hb02⟩
          case measure => exact meas_nat hlt
      · have hd1 : deep1 x = 0 := if_neg hk
        have hkd : decide (x.kind = 1) = false := decide_eq_false hk
        rw [hd1, Nat.max_zero] at htk
        go_wp2_with fail
        go_roundw
        case rel => exact ⟨i + 1, by omega, by go_num, by rw [htk], hb⟩
        case measure => exact meas_nat hlt
    · obtain rfl : i = l.length := by omega
      rw [List.take_length]
      go_wp2_with fail
      go_ret
      exact ⟨rfl, hb⟩
set_option maxHeartbeats 4000000 in
set_option maxRecDepth 100000 in
theorem parDeep (wt : Nat) : ∀ (S : Nat → Prop) (v : Value) (l : List Nd) (w : World), M3.weight l < wt → M3.weight l ≤ 1000000 → (∀ b, S b → b < w.heap.size) → RepN S w v l →
    Calls Tryz.prog 27 #[v] w (IntPost (deepN l : Nat) w) := by
  induction wt with
  | zero => intro S v l w h; omega
  | succ wt ih =>
  intro S v l w hwt hw6 hS hr
  obtain ⟨a, cap, rfl⟩ := hr.slice
  obtain ⟨wo, rfl⟩ : ∃ wo : World, wo = w := ⟨_, rfl⟩
  replace ih := Lib.hid ih
  go_enter Tryz.func27, Tryz.ntmps27
  go_wp2_with fail
  go_loopw [3, 8] (fun u3 u8 wr => ∃ i : Nat, i ≤ l.length ∧ u8 = .int .i64 (i : Int) ∧ u3 = .int .i64 (deepN (l.take i) : Nat) ∧ Below wo.heap.size wo wr) (fun _ u8 _ => l.length - (intOf u8).toNat)
  case atStart => exact ⟨0, by omega, rfl, by rw [List.take_zero, deepN_nil]; rfl, Below.refl _ _⟩
  case round =>
    obtain ⟨i, hi, rfl, rfl, hb⟩ := hrel
    have hz := hb.size
    have hl6 := M3.length_le_weight l
    by_cases hlt : i < l.length
    · obtain ⟨b, off, va, vk, rfl, hSb, y0, y1, y2, y3, y4, hrv⟩ := (hr.below hS hb).at_ i hlt
      have hbl := hS b hSb
      have htk := deepN_take l i hlt
      have hwl := weight_le (List.getElem_mem hlt)
      have hdw := deepN_weight (l.take i)
      have hwt' : M3.weight (l.take i) ≤ M3.weight l := weight_take8 l i
      have hdk := deepN_weight l[i].kids
      have hC := Lib.hid (fun W (hb2 : Below wr.heap.size wr W) => ih.out S vk l[i].kids W (by omega) (by omega) (fun b h => by have := hS b h; have := hb2.size; omega) (hrv.2.keep fun b h => hb2.block b (by have := hS b h; omega)))
      obtain ⟨aa, ca, rfl⟩ := hrv.1.slice
      obtain ⟨ak, ck, rfl⟩ := hrv.2.slice
      generalize l[i] = x at *
      have hI0 : (0 : Int) ≤ (i : Int) := by omega
      have hI1 : (i : Int) < (l.length : Int) := by omega
      have hb2 : Below wr.heap.size wr (wr.alloc (.cells #[.int .i64 x.kind, .string x.name, .slice aa x.attrs.length ca, .string x.text, .slice ak x.kids.length ck] 41)) := (Below.refl _ wr).alloc (Nat.le_refl _) _
      have bX := Box.new wr 41 [.int .i64 x.kind, .string x.name, .slice aa x.attrs.length ca, .string x.text, .slice ak x.kids.length ck]
      change Box (wr.alloc (.cells #[.int .i64 x.kind, .string x.name, .slice aa x.attrs.length ca, .string x.text, .slice ak x.kids.length ck] 41)) _ _ _ at bX
      replace hr := Lib.hid hr
      replace bX := Lib.hid bX
      clear hrv
      go_upto_region 5 with fail
      obtain ⟨w2, hw2⟩ : ∃ W, wr.alloc (.cells #[.int .i64 x.kind, .string x.name, .slice aa x.attrs.length ca, .string x.text, .slice ak x.kids.length ck] 41) = W := ⟨_, rfl⟩
      rw [hw2] at hb2 bX ⊢
      have z0 := bX.out.cell (i := 0) rfl
      have z4 := bX.out.cell (i := 4) rfl
      have hC2 := Lib.hid (hC.out _ hb2)
      have hb02 := bt hb hb2
      clear hw2 y0 y1 y2 y3 y4 hC bX
      by_cases hk : x.kind = 1
      · have hkd : decide (x.kind = 1) = true := decide_eq_true hk
        rw [hk] at z0
        have hd1 : deep1 x = 1 + deepN x.kids := if_pos hk
        rw [hd1] at htk
        go_wp2_with fail
        refine hC2.out.mono ?_
        rintro e w3 ⟨rfl, hb3⟩
        have hb03 := bt hb02 hb3
        clear hC2
        go_wp2_with fail
        go_roundw
        case rel => exact ⟨i + 1, by omega, by go_num, by rw [htk]; congr 1; omega, hb03⟩
        case measure => exact meas_nat hlt
      · have hd1 : deep1 x = 0 := if_neg hk
        have hkd : decide (x.kind = 1) = false := decide_eq_false hk
        rw [hd1, Nat.max_zero] at htk
        clear hC2
        go_wp2_with fail
        go_roundw
        case rel => exact ⟨i + 1, by omega, by go_num, by rw [htk], hb02⟩
        case measure => exact meas_nat hlt
    · obtain rfl : i = l.length := by omega
      rw [List.take_length]
      go_wp2_with fail
      go_ret
      exact ⟨rfl, hb⟩
end Go.Proofs.YteefodibpjgicaaGreat

namespace Go.Proofs.YteefodibpjgicaaGreat
open Go.RowKit
theorem settles_ref {L : List Nd} (hst : M6.stableB L = true) (h : sz L ≤ 6000) : REF8 (M4.textB false L) := by
  have h1 := hst
  unfold M6.stableB at h1
  rw [Bool.and_eq_true] at h1
  have hm : M3.mayE false L = 0 := by simpa using h1.1
  have e : M5.tokens (M4.textB false L) = M7.toksN L := by
    have := M5.toks_nodes L false [] (.inl rfl) h1.2 hm
    rw [List.append_nil, M5.toksR_nil] at this
    rw [M5.tokens_eq, this]
    show M7.toksN L ++ [] = _
    rw [List.append_nil]
  unfold REF8
  rw [e]
  have h2 := (toksN_Q L).1
  have h3 := M5.sum_le_of (f := M7.tokW) (g := tokQ) (M7.toksN L) M5.tokW_le
  have h4 := M5.sum_le_of (f := fun t => t.text.size) (g := tokQ) (M7.toksN L) (fun t => by unfold tokQ; omega)
  have h5 := len_sumQ (M7.toksN L)
  unfold M5.qs at h2
  exact ⟨by omega, by omega, by omega⟩
set_option maxHeartbeats 4000000 in
set_option maxRecDepth 100000 in
theorem law08ParseSettles (v : Value) (l : List UInt8) (w : World) (hg : Glo w) (hs : Sl w v (u8s l)) : Calls Tryz.prog 7 #[v] w fun e w' => e = .returned (.bool true) ∧ Below w.heap.size w w' := by
  have hF := Lib.hid (few08 v l w hs)
  have hlen : (l.take 300).length ≤ 300 := by rw [List.length_take]; omega
  obtain ⟨a, cap, rfl, hlc, hcm⟩ := hs.len8
  clear hs
  obtain ⟨wo, rfl⟩ : ∃ wo : World, wo = w := ⟨_, rfl⟩
  go_enter Tryz.func7, Tryz.ntmps7
  go_wp2_with fail
  refine hF.out.mono ?_
  rintro e w1 ⟨hw1, v1, rfl, hs⟩
  subst hw1
  generalize l.take 300 = b at *
  obtain ⟨a1, c1, rfl, -, -⟩ := hs.len8
  obtain ⟨L, hL, hst, hmay, hfit, htl, hft, hsz⟩ := parsed_all b hlen
  have htx := text_len8 L false
  have hw6 := weight_sz L
  have hP := Lib.hid (parSettle _ b L w1 hg hs hlen hL hst hfit htl hft)
  have hR := Lib.hid (fun W (hb : Below w1.heap.size w1 W) => ref08Settle _ b L W (hs.below hb) hlen hL hst hfit (by omega) (settles_ref hst hsz))
  have hB := Lib.hid (fun W (hb : Below w1.heap.size w1 W) => ref08Bytes _ b W (hs.below hb) (by omega))
  rw [hL] at hB
  have hT := Lib.hid (fun (W : World) (v : Value) (hr : RepN (fun b => b < W.heap.size) W v L) => ref04Text _ v L W (fun b h => h) hr hfit (by omega))
  have hD1 := Lib.hid (fun (W : World) (v : Value) (hr : RepN (fun b => b < W.heap.size) W v L) => parDeep (M3.weight L + 1) _ v L W (by omega) (by omega) (fun b h => h) hr)
  have hD2 := Lib.hid (fun (W : World) (v : Value) (hr : RepN (fun b => b < W.heap.size) W v L) => ref08Deep (M3.weight L + 1) _ v L W (by omega) (by omega) (fun b h => h) hr)
  generalize deepN L = dp at *
  clear hF hs hL hst hmay hft
  go_wp2_with fail
  refine hP.out.mono ?_
  rintro e w2 ⟨rfl, hb2⟩
  have hR2 := Lib.hid (hR.out _ hb2)
  clear hP hR
  go_wp2_with fail
  refine hR2.out.mono ?_
  rintro e w3 ⟨rfl, hb3⟩
  have hb13 := bt hb2 hb3
  have hB3 := Lib.hid (hB.out _ hb13)
  clear hR2 hB
  go_wp2_with fail
  refine hB3.out.mono ?_
  rintro e w4 ⟨v4, rfl, hr4, hb4⟩
  have hb14 := bt hb13 hb4
  have hq4 := shr_lt hr4
  have hq : Hid (∀ W, Below w4.heap.size w4 W → RepN (fun b => b < W.heap.size) W v4 L) := fun W hb => (hq4.below (fun b h => h) hb).mono fun b h => Nat.lt_of_lt_of_le h hb.size
  have hT4 := Lib.hid (hT.out w4 v4 hq4)
  obtain ⟨a4, c4, rfl⟩ := hq4.slice
  clear hr4 hq4 hB3 hT
  go_wp2_with fail
  refine hT4.out.mono ?_
  rintro e w5 ⟨rfl, hb5⟩
  have hD5 := Lib.hid (hD1.out w5 _ (hq.out _ hb5))
  clear hT4 hD1
  go_wp2_with fail
  refine hD5.out.mono ?_
  rintro e w6 ⟨rfl, hb6⟩
  have hb46 := bt hb5 hb6
  have hD6 := Lib.hid (hD2.out w6 _ (hq.out _ hb46))
  clear hD5 hD2
  go_wp2_with fail
  refine hD6.out.mono ?_
  rintro e w7 ⟨rfl, hb7⟩
  have hb17 := bt hb14 (bt hb46 hb7)
  have hLv := Lib.hid (lives08 w7 (hg.below hb17 (Nat.le_refl _)))
  clear hD6
  go_wp2_with fail
  refine hLv.out.mono ?_
  rintro e w8 ⟨rfl, hb8⟩
  have hb18 := bt hb17 hb8
  go_wp2_with fail
  go_ret
  exact ⟨rfl, hb18⟩
end Go.Proofs.YteefodibpjgicaaGreat
