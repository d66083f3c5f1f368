/- Texts joined: Math5s, Math5t, Law05s. -/
import Derived.Test.YtlknmnldblodbaaH1
import Derived.Test.YtlknmnldblodbaaH2
import Derived.Test.YtlknmnldblodbaaH3
import Derived.Test.YtlknmnldblodbaaH4
import Derived.Test.YtlknmnldblodbaaH5
import Derived.Test.YtlknmnldblodbaaH6
import Derived.Test.YtlknmnldblodbaaHMath5g
import Derived.Test.YtlknmnldblodbaaHWr2
import Derived.Test.YtlknmnldblodbaaHRef04
import Derived.Test.YtlknmnldblodbaaHLaw05c
import Derived.Test.YtlknmnldblodbaaHMath5h
import Derived.Test.YtlknmnldblodbaaHLaw05b
import Derived.Test.YtlknmnldblodbaaHO1
import Derived.Test.YtlknmnldblodbaaHO2
/- Tokens by definitions: what a token of a right text is like. -/
namespace Go.Proofs.Ytlknmnldblodbaa.M5
open M1 (isB)

def R (l : List UInt8) : Prop := isB l = true
theorem R.nil : R [] := M1.isB_nil
theorem text_pre : ∀ (rs : List Int) (p : List UInt8) (c : UInt8) (rest : List UInt8), M2.okT rs → M1.text rs = p ++ c :: rest → c.toNat < 128 → ∃ rs2, M2.okT rs2 ∧ p = M1.text rs2
  | [], p, c, rest, _, h, _ => by simp [M1.text] at h
  | r :: rs, p, c, rest, ho, h, hc => by
    have hor := ho r (by simp)
    have ho' : M2.okT rs := fun x hx => ho x (by simp [hx])
    rw [M1.text_cons] at h
    rcases Nat.lt_or_ge p.length (M1.enc r).length with hl | hl
    · by_cases hr : 128 ≤ r
      · exfalso
        have h1 : (M1.enc r)[p.length]? = some c := by
          have := congrArg (fun l => l[p.length]?) h
          simp only [List.getElem?_append_left hl] at this
          rw [this]
          simp
        have := M2.enc_high r hor.1 hr c (List.mem_of_getElem? h1)
        omega
      · have h00 : 0 ≤ r := by
          have := hor.1
          unfold M1.okRune at this
          omega
        have e := M2.enc_low r h00 (by omega)
        rw [e] at h hl
        have hl1 : p.length < 1 := hl
        have hp : p = [] := List.eq_nil_of_length_eq_zero (by omega)
        exact ⟨[], by simp [M2.okT], hp⟩
    · have h1 : p = M1.enc r ++ p.drop (M1.enc r).length := by
        have := congrArg (List.take (M1.enc r).length) h
        rw [List.take_left, List.take_append_of_le_length hl] at this
        conv => lhs; rw [← List.take_append_drop (M1.enc r).length p]
        rw [← this]
      rw [h1, List.append_assoc] at h
      obtain ⟨rs2, h2, h3⟩ := text_pre rs _ c rest ho' (List.append_cancel_left h) hc
      refine ⟨r :: rs2, fun x hx => ?_, by rw [M1.text_cons, ← h3]; exact h1⟩
      rcases List.mem_cons.1 hx with rfl | hx
      · exact hor
      · exact h2 x hx
theorem R.tail {a : List UInt8} {c : UInt8} {r : List UInt8} (h : R (a ++ c :: r)) (hc : c.toNat < 128) : R r := by
  obtain ⟨rs, ho, e⟩ := (M2.right_iff _).1 h
  obtain ⟨rs2, h1, h2⟩ := M2.text_cut rs a c r ho e.symm hc
  exact (M2.right_iff _).2 ⟨rs2, h1, h2⟩
theorem R.head {a : List UInt8} {c : UInt8} {r : List UInt8} (h : R (a ++ c :: r)) (hc : c.toNat < 128) : R a := by
  obtain ⟨rs, ho, e⟩ := (M2.right_iff _).1 h
  obtain ⟨rs2, h1, h2⟩ := text_pre rs a c r ho e.symm hc
  exact (M2.right_iff _).2 ⟨rs2, h1, h2⟩
theorem R.drop1 {c : UInt8} {r : List UInt8} (h : R (c :: r)) (hc : c.toNat < 128) : R r := R.tail (a := []) h hc
theorem isB_one (c : UInt8) (t : List UInt8) (h : c.toNat < 128) (h0 : c.toNat ≠ 0) (h13 : c.toNat ≠ 13) (ht : R t) : R (c :: t) := by
  obtain ⟨rs, ho, e⟩ := (M2.right_iff _).1 ht
  obtain ⟨rs2, h1, h2⟩ := M2.low_text [c] (fun x hx => by
    rw [List.mem_singleton] at hx
    subst hx
    exact ⟨h, fun e => h0 (by rw [e]; rfl), fun e => h13 (by rw [e]; rfl)⟩)
  refine (M2.right_iff _).2 ⟨rs2 ++ rs, fun x hx => ?_, by rw [M1.text_append, ← h2, ← e]; rfl⟩
  rcases List.mem_append.1 hx with hx | hx
  · exact h1 x hx
  · exact ho x hx
theorem R.mid {a : List UInt8} {c : UInt8} {r : List UInt8} (h : R (a ++ c :: r)) (hc : c.toNat < 128) : R (c :: r) := by
  obtain ⟨rs, ho, e⟩ := (M2.right_iff _).1 h
  have ht := h.tail hc
  refine isB_one c r hc (fun h0 => ?_) (fun h0 => ?_) ht
  all_goals
    have key : ∀ rs : List Int, M2.okT rs → ∀ x ∈ M1.text rs, x.toNat ≠ 0 ∧ x.toNat ≠ 13 := by
      intro rs
      induction rs with
      | nil => intro _ x hx; simp [M1.text] at hx
      | cons q rs ih =>
        intro ho x hx
        rw [M1.text_cons] at hx
        have hq := ho q (by simp)
        rcases List.mem_append.1 hx with hx | hx
        · by_cases hr : 128 ≤ q
          · have := M2.enc_high q hq.1 hr x hx
            omega
          · have h00 : 0 ≤ q := by
              have := hq.1
              unfold M1.okRune at this
              omega
            rw [M2.enc_low q h00 (by omega), List.mem_singleton] at hx
            have e1 : x.toNat = q.toNat := by
              rw [hx]
              have : q.toNat < 256 := by omega
              simp [Nat.toUInt8]
              omega
            have := hq.2
            omega
        · exact ih (fun y hy => ho y (by simp [hy])) x hx
    have := key rs ho c (by rw [← e]; simp)
    omega
theorem R.drops {q : UInt8 → Bool} (hq : ∀ c, q c = true → c.toNat < 128) {l : List UInt8} (h : R l) : R (l.dropWhile q) := by
  induction l with
  | nil => exact h
  | cons c r ih =>
    rw [List.dropWhile_cons]
    split
    · rename_i hc
      exact ih (h.drop1 (hq c hc))
    · exact h
theorem R.upto {q : UInt8 → Bool} (hq : ∀ c, q c = false → c.toNat < 128) {l : List UInt8} (h : R l) : R (l.takeWhile q) ∧ R (l.dropWhile q) := by
  have e := List.takeWhile_append_dropWhile (p := q) (l := l)
  cases hd : l.dropWhile q with
  | nil =>
    rw [hd, List.append_nil] at e
    exact ⟨by rw [e]; exact h, R.nil⟩
  | cons c r =>
    have hc : q c = false := by
      have h1 := List.head?_dropWhile_not q l
      rw [hd] at h1
      simpa using h1
    rw [hd] at e
    have h2 : R (l.takeWhile q ++ c :: r) := by rw [e]; exact h
    exact ⟨h2.head (hq c hc), h2.mid (hq c hc)⟩
theorem small_lt {c : UInt8} (h : 128 ≤ c.toNat) : M1.small c = c := by
  unfold M1.small
  rw [if_neg]
  omega
theorem small_ok (c : UInt8) (h : c.toNat < 128) (h0 : c.toNat ≠ 0) (h13 : c.toNat ≠ 13) : (M1.small c).toNat < 128 ∧ (M1.small c).toNat ≠ 0 ∧ (M1.small c).toNat ≠ 13 := by
  unfold M1.small
  split
  · have : (c + 32).toNat = c.toNat + 32 := by rw [UInt8.toNat_add]; have : (32 : UInt8).toNat = 32 := rfl; omega
    omega
  · exact ⟨h, h0, h13⟩
theorem R.fold {l : List UInt8} (h : R l) : R (M1.fold l) := by
  obtain ⟨rs, ho, rfl⟩ := (M2.right_iff _).1 h
  clear h
  induction rs with
  | nil => exact R.nil
  | cons q rs ih =>
    have ih := ih (fun y hy => ho y (by simp [hy]))
    have hq := ho q (by simp)
    rw [M1.text_cons]
    unfold M1.fold at *
    rw [List.map_append]
    by_cases hr : 128 ≤ q
    · have e : (M1.enc q).map M1.small = M1.enc q := by
        have hh := M2.enc_high q hq.1 hr
        generalize M1.enc q = l at *
        clear ih
        induction l with
        | nil => rfl
        | cons c l ih => rw [List.map_cons, small_lt (hh c (by simp)), ih (fun x hx => hh x (by simp [hx]))]
      rw [e]
      obtain ⟨rs2, h1, h2⟩ := (M2.right_iff _).1 ih
      refine (M2.right_iff _).2 ⟨q :: rs2, fun x hx => ?_, by rw [M1.text_cons, h2]⟩
      rcases List.mem_cons.1 hx with rfl | hx
      · exact hq
      · exact h1 x hx
    · have h00 : 0 ≤ q := by
        have := hq.1
        unfold M1.okRune at this
        omega
      rw [M2.enc_low q h00 (by omega)]
      have e1 : (q.toNat.toUInt8).toNat = q.toNat := by
        have : q.toNat < 256 := by omega
        simp [Nat.toUInt8]
        omega
      have := hq.2
      obtain ⟨a1, a2, a3⟩ := small_ok q.toNat.toUInt8 (by omega) (by omega) (by omega)
      exact isB_one _ _ a1 a2 a3 ih
end Go.Proofs.Ytlknmnldblodbaa.M5

/- Tokens by definitions: each token of a right text has its shape. -/
namespace Go.Proofs.Ytlknmnldblodbaa.M5

theorem small_cases (c : UInt8) : (65 ≤ c.toNat ∧ c.toNat ≤ 90 ∧ (M1.small c).toNat = c.toNat + 32) ∨ (¬ (65 ≤ c.toNat ∧ c.toNat ≤ 90) ∧ M1.small c = c) := by
  unfold M1.small
  split
  · rename_i h
    have : (c + 32).toNat = c.toNat + 32 := by rw [UInt8.toNat_add]; have : (32 : UInt8).toNat = 32 := rfl; omega
    exact .inl ⟨h.1, h.2, this⟩
  · rename_i h
    exact .inr ⟨h, rfl⟩
theorem letter_small {c : UInt8} (h : letterB c = true) : M3.smallB (M1.small c) = true := by
  unfold letterB at h
  unfold M3.smallB
  rw [Bool.or_eq_true, decide_eq_true_iff, decide_eq_true_iff] at h
  rw [decide_eq_true_iff]
  rcases small_cases c with ⟨h1, h2, h3⟩ | ⟨h1, h2⟩
  · omega
  · rw [h2]; omega
theorem name_small {c : UInt8} (h : nameB c = true) : M3.nameB (M1.small c) = true := by
  unfold nameB at h
  rw [Bool.or_eq_true, Bool.or_eq_true] at h
  unfold M3.nameB
  rw [Bool.or_eq_true]
  rcases h with (h | h) | h
  · exact .inl (letter_small h)
  · right
    have h := of_decide_eq_true h
    rcases small_cases c with ⟨h1, h2, h3⟩ | ⟨h1, h2⟩
    · omega
    · rw [h2]; exact decide_eq_true (by omega)
  · right
    rw [beq_iff_eq.1 h]
    decide
theorem name_lo {c : UInt8} (h : nameB c = true) : c.toNat < 128 := by
  unfold nameB letterB at h
  rw [Bool.or_eq_true, Bool.or_eq_true, Bool.or_eq_true, decide_eq_true_iff, decide_eq_true_iff, decide_eq_true_iff] at h
  rcases h with ((h | h) | h) | h
  · omega
  · omega
  · omega
  · rw [beq_iff_eq.1 h]; decide
theorem blank_lo {c : UInt8} (h : blankB c = true) : c.toNat < 128 := by
  unfold blankB at h
  simp only [Bool.or_eq_true, beq_iff_eq] at h
  rcases h with ((h | h) | h) | h <;> (rw [h]; decide)
theorem over_lo {c : UInt8} (h : overB c = true) : c.toNat < 128 := by
  unfold overB at h
  rw [Bool.or_eq_true, Bool.or_eq_true, beq_iff_eq, beq_iff_eq] at h
  rcases h with (h | h) | h
  · exact blank_lo h
  · rw [h]; decide
  · rw [h]; decide
theorem stop_lo {c : UInt8} (h : keyB c = false) : c.toNat < 128 := by
  unfold keyB stopB at h
  have h : (blankB c || c == 47 || c == 62 || c == 61) = true := by
    revert h
    cases (blankB c || c == 47 || c == 62 || c == 61)
    · intro h; cases h
    · intro _; rfl
  rw [Bool.or_eq_true, Bool.or_eq_true, Bool.or_eq_true, beq_iff_eq, beq_iff_eq, beq_iff_eq] at h
  rcases h with ((h | h) | h) | h
  · exact blank_lo h
  · rw [h]; decide
  · rw [h]; decide
  · rw [h]; decide
theorem bare_lo {c : UInt8} (h : bareB c = false) : c.toNat < 128 := by
  unfold bareB at h
  have h : (blankB c || c == 62) = true := by
    revert h
    rw [bne]
    cases blankB c <;> cases (c == 62) <;> simp
  rw [Bool.or_eq_true, beq_iff_eq] at h
  rcases h with h | h
  · exact blank_lo h
  · rw [h]; decide
theorem key_small {c : UInt8} (h : keyB c = true) : M3.capB (M1.small c) = false ∧ M3.badB (M1.small c) = false := by
  unfold keyB stopB blankB at h
  simp only [Bool.not_eq_true', Bool.or_eq_false_iff, beq_eq_false_iff_ne] at h
  obtain ⟨⟨⟨⟨⟨⟨b9, b10⟩, b12⟩, b32⟩, b47⟩, b62⟩, b61⟩ := h
  have key : ∀ d : UInt8, c ≠ d → c.toNat ≠ d.toNat := fun d hd e => hd (UInt8.toNat_inj.1 e)
  have c9 : c.toNat ≠ 9 := key 9 b9
  have c10 : c.toNat ≠ 10 := key 10 b10
  have c12 : c.toNat ≠ 12 := key 12 b12
  have c32 : c.toNat ≠ 32 := key 32 b32
  have c47 : c.toNat ≠ 47 := key 47 b47
  have c62 : c.toNat ≠ 62 := key 62 b62
  have c61 : c.toNat ≠ 61 := key 61 b61
  have hn : ¬ (65 ≤ (M1.small c).toNat ∧ (M1.small c).toNat ≤ 90) ∧ (M1.small c).toNat ≠ 9 ∧ (M1.small c).toNat ≠ 10 ∧ (M1.small c).toNat ≠ 12 ∧ (M1.small c).toNat ≠ 32 ∧ (M1.small c).toNat ≠ 47 ∧ (M1.small c).toNat ≠ 62 ∧ (M1.small c).toNat ≠ 61 := by
    rcases small_cases c with ⟨h1, h2, h3⟩ | ⟨h1, h2⟩
    · omega
    · rw [h2]; exact ⟨h1, c9, c10, c12, c32, c47, c62, c61⟩
  obtain ⟨a0, a1, a2, a3, a4, a5, a6, a7⟩ := hn
  constructor
  · unfold M3.capB
    exact decide_eq_false a0
  · unfold M3.badB
    simp only [Bool.or_eq_false_iff, beq_eq_false_iff_ne]
    exact ⟨⟨⟨⟨⟨⟨a1, a2⟩, a3⟩, a4⟩, a5⟩, a6⟩, a7⟩
theorem key_named (c : UInt8) (r : List UInt8) (h : R (c :: r)) (hk : keyB c = true) : M3.attributedB (M1.fold ((c :: r).takeWhile keyB)) = true := by
  have hR := (R.upto (q := keyB) (fun _ h => stop_lo h) h).1.fold
  have hall : ∀ x ∈ M1.fold ((c :: r).takeWhile keyB), M3.capB x = false ∧ M3.badB x = false := fun x hx => by
    unfold M1.fold at hx
    obtain ⟨y, hy, rfl⟩ := List.mem_map.1 hx
    have h1 := List.all_takeWhile (p := keyB) (l := c :: r)
    exact key_small (List.all_eq_true.1 h1 y hy)
  have hne : (M1.fold ((c :: r).takeWhile keyB)).isEmpty = false := by
    rw [List.takeWhile_cons, hk, if_pos rfl]
    rfl
  generalize M1.fold ((c :: r).takeWhile keyB) = l at *
  unfold M3.attributedB
  have hR : M1.isB l = true := hR
  rw [hne, hR, List.any_eq_false.2 (fun x hx => by simpa using (hall x hx).1), List.any_eq_false.2 (fun x hx => by simpa using (hall x hx).2)]
  rfl
theorem attC_name (l : List UInt8) : (attC l).1.name = bs (M1.fold (l.takeWhile keyB)) := by unfold attC; split <;> rfl
theorem R.quote {q : UInt8} (hq : q.toNat < 128) {t : List UInt8} (h : R t) : R ((t.dropWhile (· != q)).drop 1) := by
  have h1 := (R.upto (q := (· != q)) (fun c hc => by
    have : c = q := by simpa using hc
    rw [this]; exact hq) h).2
  have h2 := List.head?_dropWhile_not (· != q) t
  cases hd : t.dropWhile (· != q) with
  | nil => exact R.nil
  | cons c r =>
    rw [hd] at h1 h2
    have hc : c = q := by simpa using h2
    exact h1.drop1 (by rw [hc]; exact hq)
theorem R.val {l : List UInt8} (h : R l) : R (valC l).2 := by
  cases l with
  | nil => exact R.nil
  | cons q t =>
    rw [valC]
    split
    · rename_i hq
      have hq : q.toNat < 128 := by rcases hq with rfl | rfl <;> decide
      exact R.quote hq (h.drop1 hq)
    · exact (R.upto (q := bareB) (fun _ h => bare_lo h) h).2
theorem R.att {l : List UInt8} (h : R l) : R (attC l).2 := by
  have h1 : R ((l.dropWhile keyB).dropWhile blankB) := R.drops (fun _ h => blank_lo h) (R.upto (q := keyB) (fun _ h => stop_lo h) h).2
  by_cases hx : ∃ r, (l.dropWhile keyB).dropWhile blankB = 61 :: r
  · obtain ⟨r, hx⟩ := hx
    rw [attC_61 l r hx]
    rw [hx] at h1
    exact R.val (R.drops (fun _ h => blank_lo h) (h1.drop1 (by decide)))
  · rw [attC_ne l (fun r e => hx ⟨r, e⟩)]
    exact h1
/-- Attributes as a token holds them. -/
def AttOk5 (N : Nat) (l : List Att) : Prop := (∀ a ∈ l, M3.attributedB a.name.data.toList = true ∧ a.name.size ≤ N) ∧ l.Pairwise (fun a b => a.name ≠ b.name)
theorem AttOk5.add {N : Nat} {l : List Att} {a : Att} (h : AttOk5 N l) (ha : M3.attributedB a.name.data.toList = true ∧ a.name.size ≤ N) : AttOk5 N (addT l a) := by
  unfold addT
  split
  · exact h
  · rename_i hn
    refine ⟨fun b hb => ?_, List.pairwise_append.2 ⟨h.2, List.pairwise_singleton _ _, fun b hb c hc e => ?_⟩⟩
    · rcases List.mem_append.1 hb with hb | hb
      · exact h.1 b hb
      · rw [List.mem_singleton] at hb; subst hb; exact ha
    · rw [List.mem_singleton] at hc
      subst hc
      exact hn (List.any_eq_true.2 ⟨b, hb, M3.eqB_iff.2 e⟩)
theorem atts_shape (N : Nat) : ∀ (n : Nat) (l : List UInt8) (acc as_ : List Att) (r : List UInt8), l.length ≤ n → l.length ≤ N → R l → AttOk5 N acc → attsR l acc = some (as_, r) → AttOk5 N as_ ∧ R r := by
  intro n
  induction n with
  | zero =>
    intro l acc as_ r hn _ _ _ h
    have : l = [] := List.eq_nil_of_length_eq_zero (by omega)
    subst this
    rw [attsR_nil] at h
    cases h
  | succ n ih =>
    intro l acc as_ r hn hN hR ha h
    rw [atts_over] at h
    have hR1 : R (l.dropWhile overB) := R.drops (fun _ h => over_lo h) hR
    have hle := (List.dropWhile_suffix (l := l) overB).length_le
    cases hd : l.dropWhile overB with
    | nil => rw [hd, attsR_nil] at h; cases h
    | cons c t =>
      have ho := over_head l c t hd
      rw [hd] at h hR1 hle
      by_cases h62 : c = 62
      · subst h62
        rw [attsR_cons, if_pos rfl] at h
        cases h
        exact ⟨ha, hR1.drop1 (by decide)⟩
      · have hlt := attC_lt c t ho h62
        rw [atts_one c t acc ho h62] at h
        have hk : keyB c = true := by
          unfold keyB stopB
          unfold overB at ho
          have : (c == 62) = false := beq_eq_false_iff_ne.2 h62
          rw [this]
          revert ho
          cases blankB c <;> cases (c == 47) <;> cases (c == 61) <;> simp
        exact ih _ _ _ _ (by omega) (by omega) hR1.att (ha.add ⟨by rw [attC_name, bs_data]; exact key_named c t hR1 hk, Nat.le_trans (attC_name_le (c :: t)) (by omega)⟩) h
theorem valueOf_own (l : List Att) (h : l.Pairwise (fun a b => a.name ≠ b.name)) : ∀ a ∈ l, M3.valueOf a.name l = some a.value := by
  induction l with
  | nil => intro a ha; exact (nomatch ha)
  | cons b r ih =>
    intro a ha
    obtain ⟨h1, h2⟩ := List.pairwise_cons.1 h
    rw [M3.valueOf]
    rcases List.mem_cons.1 ha with rfl | ha
    · rw [if_pos (M3.eqB_iff.2 rfl)]
    · rw [if_neg (fun e => h1 a ha (M3.eqB_iff.1 e))]
      exact ih h2 a ha
/-- A token's shape. -/
def ShapeT (N : Nat) (t : Tok) : Prop :=
  ((t.kind = 1 ∨ t.kind = 2) ∧ (M3.namedB t.name.data.toList = true ∧ t.name.size ≤ N) ∧ t.text = ⟨#[]⟩ ∧ (t.kind = 2 → t.attrs = []) ∧ AttOk5 N t.attrs) ∨
    ((t.kind = 3 ∨ t.kind = 4) ∧ t.name = ⟨#[]⟩ ∧ t.attrs = [] ∧ (t.kind = 3 → t.text.size ≠ 0))
theorem named_tw (d : UInt8) (r : List UInt8) (h : letterB d = true) : M3.namedB (M1.fold ((d :: r).takeWhile nameB)) = true := by
  have hn : nameB d = true := by unfold nameB; rw [h]; rfl
  rw [List.takeWhile_cons, hn, if_pos rfl]
  unfold M1.fold
  rw [List.map_cons]
  show (M3.smallB (M1.small d) && _) = true
  rw [letter_small h, Bool.true_and, List.all_eq_true]
  intro x hx
  obtain ⟨y, hy, rfl⟩ := List.mem_map.1 hx
  exact name_small (List.all_eq_true.1 (List.all_takeWhile (p := nameB) (l := r)) y hy)
theorem fold_size {p : UInt8 → Bool} (l : List UInt8) : (bs (M1.fold (l.takeWhile p))).size ≤ l.length := by
  show (M1.fold (l.takeWhile p)).toArray.size ≤ _
  rw [List.size_toArray, M1.fold, List.length_map]
  exact (List.takeWhile_prefix (l := l) p).length_le
theorem find_at (w l : List UInt8) (h : findL w l < l.length) : ∃ b, l.drop (findL w l) = w ++ b := by
  induction l with
  | nil => simp at h
  | cons c r ih =>
    rw [findL] at h ⊢
    split
    · rename_i hp
      obtain ⟨b, hb⟩ := List.isPrefixOf_iff_prefix.1 hp
      exact ⟨b, hb.symm⟩
    · rename_i hp
      rw [if_neg hp] at h
      exact ih (by simpa using h)
theorem R.find {w w0 : List UInt8} {x : UInt8} (hw : w = w0 ++ [x]) (hx : x.toNat < 128) {l : List UInt8} (h : R l) (hf : findL w l < l.length) : R (l.drop (findL w l + w.length)) := by
  obtain ⟨b, hb⟩ := find_at w l hf
  have e := List.take_append_drop (findL w l) l
  rw [hb, hw, List.append_assoc, ← List.append_assoc] at e
  have e2 : l.drop (findL w l + w.length) = b := by rw [← List.drop_drop, hb, List.drop_left]
  rw [e2]
  have h : R ((l.take (findL (w0 ++ [x]) l) ++ w0) ++ x :: b) := by
    subst hw
    rw [← e] at h
    exact h
  exact R.tail h hx
theorem R.uptoR {w w0 : List UInt8} {x : UInt8} (hw : w = w0 ++ [x]) (hx : x.toNat < 128) {l : List UInt8} (h : R l) : R (M5.uptoR w l).2 := by
  unfold M5.uptoR
  split
  · rename_i hf
    exact R.find hw hx h hf
  · exact R.nil
theorem starts_facts {c d : UInt8} {r : List UInt8} (h : startsB (c :: d :: r) = true) : c = 60 ∧ (letterB d = true ∨ d = 33 ∨ d = 63 ∨ d = 47) := by
  have h : (c == 60 && (letterB d || d == 33 || d == 63 || d == 47)) = true := h
  rw [Bool.and_eq_true, Bool.or_eq_true, Bool.or_eq_true, Bool.or_eq_true, beq_iff_eq, beq_iff_eq, beq_iff_eq, beq_iff_eq] at h
  obtain ⟨h1, ((h | h) | h) | h⟩ := h
  · exact ⟨h1, .inl h⟩
  · exact ⟨h1, .inr (.inl h)⟩
  · exact ⟨h1, .inr (.inr (.inl h))⟩
  · exact ⟨h1, .inr (.inr (.inr h))⟩
theorem tag_shape (N : Nat) (l : List UInt8) (hN : l.length ≤ N) (hs : startsB l = true) (h : R l) : R (tagR l).2 ∧ ((tagR l).1.kind ≠ 0 → ShapeT N (tagR l).1) := by
  match l, hN, hs, h with
  | [], _, hs, _ => cases hs
  | [c], _, hs, _ => cases hs
  | c :: d :: r, hN, hs, h =>
    have hN : r.length + 2 ≤ N := hN
    obtain ⟨rfl, hd⟩ := starts_facts hs
    have h1 : R (d :: r) := h.drop1 (by decide)
    have hdl : d.toNat < 128 := by
      rcases hd with hd | rfl | rfl | rfl
      · exact name_lo (by unfold nameB; rw [hd]; rfl)
      · decide
      · decide
      · decide
    have h2 : R r := h1.drop1 hdl
    unfold tagR
    rw [if_pos hs]
    show R (if letterB d then _ else _ : Tok × List UInt8).2 ∧ ((if letterB d then _ else _ : Tok × List UInt8).1.kind ≠ 0 → ShapeT N (if letterB d then _ else _ : Tok × List UInt8).1)
    by_cases hl : letterB d = true
    · rw [if_pos hl, begin_eq]
      have e : (60 :: d :: r).drop 1 = d :: r := rfl
      rw [e]
      have h3 : R ((d :: r).dropWhile nameB) := R.drops (fun _ h => name_lo h) h1
      cases ha : attsR ((d :: r).dropWhile nameB) [] with
      | none => exact ⟨R.nil, fun h => absurd rfl h⟩
      | some p =>
        obtain ⟨as_, q⟩ := p
        obtain ⟨g1, g2⟩ := atts_shape N _ _ [] as_ q (Nat.le_refl _) (Nat.le_trans (List.dropWhile_suffix (l := d :: r) nameB).length_le (by show r.length + 1 ≤ N; omega)) h3 ⟨fun a h => (nomatch h), List.Pairwise.nil⟩ ha
        exact ⟨g2, fun _ => .inl ⟨.inl rfl, ⟨by rw [bs_data]; exact named_tw d r hl, Nat.le_trans (fold_size (p := nameB) (d :: r)) (by show r.length + 1 ≤ N; omega)⟩, rfl, fun h => absurd h (show ¬ (1 : Int) = 2 by decide), g1⟩⟩
    · rw [if_neg hl]
      split
      · rename_i hp
        obtain ⟨b, hb⟩ := List.isPrefixOf_iff_prefix.1 hp
        have h4 : R ((60 :: d :: r).drop 4) := by
          rw [← hb] at h ⊢
          exact R.tail (a := [60, 33, 45]) h (by decide)
        exact ⟨R.uptoR (w0 := [45, 45]) rfl (by decide) h4, fun _ => .inr ⟨.inr rfl, rfl, rfl, fun h => absurd h (show ¬ (4 : Int) = 3 by decide)⟩⟩
      · split
        · rename_i hp
          obtain ⟨b, hb⟩ := List.isPrefixOf_iff_prefix.1 hp
          have h4 : R ((60 :: d :: r).drop 3) := by
            rw [← hb] at h ⊢
            exact R.tail (a := [60, 47]) h (by decide)
          exact ⟨h4, fun h => absurd rfl h⟩
        · split
          · rename_i hx
            split
            · rename_i hf
              have h5 : R (r.drop (findL [62] r + 1)) := R.find (w := [62]) (w0 := []) rfl (by decide) h2 hf
              refine ⟨h5, fun _ => .inl ⟨.inr rfl, ⟨?_, Nat.le_trans (fold_size (p := nameB) r) (by omega)⟩, rfl, fun _ => rfl, fun a h => (nomatch h), List.Pairwise.nil⟩⟩
              rw [bs_data]
              cases r with
              | nil => exact (nomatch hx.2)
              | cons x t => exact named_tw x t (Option.some.inj hx.2)
            · exact ⟨R.nil, fun h => absurd rfl h⟩
          · exact ⟨R.uptoR (w0 := []) rfl (by decide) h2, fun _ => .inr ⟨.inr rfl, rfl, rfl, fun h => absurd h (show ¬ (4 : Int) = 3 by decide)⟩⟩
theorem small_lt60 {c : UInt8} (h : M1.small c = 60) : c = 60 := by
  rcases small_cases c with ⟨h1, h2, h3⟩ | ⟨h1, h2⟩
  · rw [h] at h3
    have : (60 : UInt8).toNat = 60 := rfl
    omega
  · rw [← h2]; exact h
theorem ends_two (w : List UInt8) (c : UInt8) (r : List UInt8) : ∃ e : Bool, endsL w (c :: r) = if (M1.fold ((c :: r).take w.length) == w && e) = true then some 0 else (endsL w r).map (· + 1) := ⟨_, by rw [endsL]⟩
theorem ends_at (nm : List UInt8) : ∀ (l : List UInt8) (k : Nat), endsL ([60, 47] ++ nm) l = some k → ∃ r, l.drop k = 60 :: r := by
  intro l
  induction l with
  | nil => intro k h; cases h
  | cons c r ih =>
    intro k h
    obtain ⟨e, he⟩ := ends_two ([60, 47] ++ nm) c r
    rw [he] at h
    by_cases hc : (M1.fold ((c :: r).take ([60, 47] ++ nm).length) == [60, 47] ++ nm && e) = true
    · rw [if_pos hc] at h
      cases h
      rw [Bool.and_eq_true] at hc
      have h1 := beq_iff_eq.1 hc.1
      have h2 : M1.small c = 60 := by
        have := congrArg List.head? h1
        exact Option.some.inj this
      exact ⟨r, by rw [List.drop_zero, small_lt60 h2]⟩
    · rw [if_neg hc] at h
      cases hk : endsL ([60, 47] ++ nm) r with
      | none => rw [hk] at h; cases h
      | some j =>
        rw [hk] at h
        cases h
        obtain ⟨t, ht⟩ := ih j hk
        exact ⟨t, by rw [List.drop_succ_cons]; exact ht⟩
theorem R.drop_at {l r : List UInt8} {k : Nat} (h : R l) (hd : l.drop k = 60 :: r) : R (l.drop k) := by
  have e := List.take_append_drop k l
  rw [hd] at e ⊢
  rw [← e] at h
  exact h.mid (by decide)
theorem R.ends {nm l : List UInt8} (h : R l) : R (l.drop (endN nm l)) := by
  unfold endN
  cases hk : endsL ([60, 47] ++ nm) l with
  | none =>
    show R (l.drop l.length)
    rw [List.drop_length]
    exact R.nil
  | some k =>
    obtain ⟨r, hr⟩ := ends_at nm l k hk
    exact h.drop_at hr
theorem raw_shape (N : Nat) (t : Tok) {l : List UInt8} (h : R l) : R (rawT t l).2 ∧ (rawT t l).2.length ≤ l.length ∧ ∀ x ∈ (rawT t l).1, ShapeT N x := by
  unfold rawT
  split
  · refine ⟨h.ends, by show (l.drop _).length ≤ _; rw [List.length_drop]; omega, fun x hx => ?_⟩
    have hx : x ∈ asIs (l.take (endN t.name.data.toList l)) := hx
    unfold asIs at hx
    split at hx
    · exact (nomatch hx)
    · rename_i hn
      rw [List.mem_singleton] at hx
      subst hx
      refine .inr ⟨.inl rfl, rfl, rfl, fun _ => ?_⟩
      show (bs _).size ≠ 0
      show (List.toArray _).size ≠ 0
      rw [List.size_toArray]
      intro e
      exact hn (by rw [List.eq_nil_of_length_eq_zero e]; rfl)
  · exact ⟨h, Nat.le_refl _, fun x hx => (nomatch hx)⟩
theorem decode_ne (l : List UInt8) (h : l ≠ []) : M2.decode l ≠ [] := by
  cases l with
  | nil => exact absurd rfl h
  | cons c t =>
    cases ho : M2.one (c :: t) with
    | none => rw [M2.decode_byte ho]; exact List.cons_ne_nil _ _
    | some p =>
      obtain ⟨r, n⟩ := p
      rw [M2.decode_ref ho]
      intro e
      have h1 := congrArg List.length e
      have h2 := M2.enc_len_le r
      rw [List.length_append] at h1
      simp only [List.length_nil] at h1
      omega
theorem R.plain {l : List UInt8} (h : R l) : R (l.drop (plainN l)) := by
  cases hd : l.drop (plainN l) with
  | nil => exact R.nil
  | cons c r =>
    have hs := plain_starts l (by rw [hd]; exact List.cons_ne_nil _ _)
    obtain ⟨q, hq⟩ := starts_head _ hs
    rw [← hd]
    exact h.drop_at hq
theorem toks_shape (N : Nat) : ∀ (n : Nat) (l : List UInt8), l.length ≤ n → l.length ≤ N → R l → ∀ t ∈ toksR [] l, ShapeT N t := by
  intro n
  induction n with
  | zero =>
    intro l hn _ _ t ht
    have : l = [] := List.eq_nil_of_length_eq_zero (by omega)
    subst this
    rw [toksR_nil] at ht
    exact (nomatch ht)
  | succ n ih =>
    intro l hn hN hR t ht
    by_cases hl : l = []
    · subst hl
      rw [toksR_nil] at ht
      exact (nomatch ht)
    · by_cases hs : startsB l = true
      · rw [toks_tag l hs] at ht
        obtain ⟨g1, g2⟩ := tag_shape N l hN hs hR
        obtain ⟨g3, g4, g5⟩ := raw_shape N (tagR l).1 g1
        have hlt := tag_lt l hs
        rcases List.mem_append.1 ht with ht | ht
        · split at ht
          · rename_i hk
            rw [List.mem_singleton] at ht
            subst ht
            exact g2 hk
          · exact (nomatch ht)
        · rcases List.mem_append.1 ht with ht | ht
          · exact g5 t ht
          · exact ih _ (by omega) (by omega) g3 t ht
      · have hs : startsB l = false := by simpa using hs
        have hp := plain_pos l hl hs
        have hple := plainN_le l
        rw [toks_step l hl hs] at ht
        rcases List.mem_cons.1 ht with rfl | ht
        · refine .inr ⟨.inl rfl, rfl, rfl, fun _ => ?_⟩
          show (List.toArray _).size ≠ 0
          rw [List.size_toArray]
          intro e
          refine decode_ne (l.take (plainN l)) (fun e2 => ?_) (List.eq_nil_of_length_eq_zero e)
          have := congrArg List.length e2
          rw [List.length_take] at this
          simp only [List.length_nil] at this
          omega
        · exact ih _ (by rw [List.length_drop]; omega) (by rw [List.length_drop]; omega) hR.plain t ht
end Go.Proofs.Ytlknmnldblodbaa.M5

/- Statement TokenShape. -/
namespace Go.Proofs.Ytlknmnldblodbaa
open Go.RowKit

theorem cbelow5 {B : Nat} {w w' : World} (hb : Below B w w') {b o : Nat} {v : Value} (h : w.cell? ⟨b, o, none⟩ = some v) (hlt : b < B) : w'.cell? ⟨b, o, none⟩ = some v := (hb.cell (p := ⟨b, o, none⟩) hlt).trans h
theorem sh_meas {n k : Nat} (h : k < n) : n - (intOf (.int .i64 ((k : Int) + 1))).toNat < n - (intOf (.int .i64 (k : Int))).toNat := by
  show n - ((k : Int) + 1).toNat < n - (k : Int).toNat
  omega

set_option maxHeartbeats 8000000 in
set_option maxRecDepth 100000 in
theorem law05TokenShape (v : Value) (l : List UInt8) (w : World) (hg : Glo w) (hs : Sl w v (u8s l)) : Calls Try.prog 8 #[v] w fun e w' => e = .returned (.bool true) ∧ Below w.heap.size w w' := by
  have hF := Lib.hid (few05 v l w hs)
  have hfl := fewB_len l
  have hz : (M5.bs (fewB l)).size ≤ 1073741824 := by rw [bs_size]; omega
  have hT := Lib.hid (fun w hg => tokTokens (M5.bs (fewB l)) w hg hz)
  rw [M5.bs_data] at hT
  have hsh := Lib.hid (M5.toks_shape 1200 _ (fewB l) (Nat.le_refl _) hfl (M1.isB_right _))
  rw [← M5.tokens_eq] at hsh
  generalize M5.tokens (fewB l) = T at *
  generalize M5.bs (fewB l) = s at *
  obtain ⟨a, cap, rfl, hlc, hcm⟩ := hs.len8
  clear hs hfl
  obtain ⟨wo, rfl⟩ : ∃ wo : World, wo = w := ⟨_, rfl⟩
  go_enter Try.func8, Try.ntmps8
  go_wp2_with fail
  refine hF.out.mono ?_
  rintro e1 w1 ⟨rfl, hb1⟩
  go_wp2_with fail
  refine (hT.out _ (hg.below hb1 (Nat.le_refl _))).mono ?_
  rintro e1 w2 ⟨v2, rfl, hl2, hb2⟩
  have hb12 := bt hb1 hb2
  obtain ⟨a2, c2, rfl⟩ := hl2.slice
  obtain ⟨xs2, hr2, hp2⟩ := hl2.rows
  obtain ⟨_, hlc2, hcm2⟩ := hr2.len
  clear hl2
  go_wp2_with fail
  go_loopw [4, 5, 6, 7, 8, 9, 10, 11] (fun u4 _ _ _ _ _ _ _ wr => ∃ i : Nat, i ≤ T.length ∧ u4 = .int .i64 (i : Int) ∧ Below w2.heap.size w2 wr) (fun u4 _ _ _ _ _ _ _ _ => T.length - (intOf u4).toNat)
  case atStart => exact ⟨0, by omega, rfl, Below.refl _ _⟩
  case round =>
    obtain ⟨i, hi, rfl, hbw⟩ := hrel
    obtain ⟨wq, rfl⟩ : ∃ wq : World, wq = wr := ⟨_, rfl⟩
    by_cases hlt : i < T.length
    · have hS2 : ∀ b, w1.heap.size ≤ b ∧ b < w2.heap.size → b < w2.heap.size := fun b h => h.2
      obtain ⟨b1, o1, va1, rfl, hbk, q1, p0, p1, p2, p3⟩ := (hr2.below5 hS2 hbw).atT (hp2.below5 hS2 hbw) i hlt
      obtain ⟨e1, f1, rfl⟩ := q1.slice
      obtain ⟨_, hq1, hq2⟩ := q1.len
      have hlti : decide ((i : Int) < (T.length : Int)) = true := decide_eq_true (by omega)
      have hI0 : (0 : Int) ≤ (i : Int) := by omega
      have hI1 : (i : Int) < (T.length : Int) := by omega
      have hst := hsh.out T[i] (List.getElem_mem hlt)
      generalize T[i] = t at *
      obtain ⟨tk, tn, ta, tx⟩ := t
      have bx := Box.new wq 31 [.int .i64 tk, .string tn, .slice e1 ta.length f1, .string tx]
      have hbA := (Below.refl wq.heap.size wq).alloc (Nat.le_refl _) (.cells #[.int .i64 tk, .string tn, .slice e1 ta.length f1, .string tx] 31)
      have hbW : Below w2.heap.size w2 (wq.alloc (.cells #[.int .i64 tk, .string tn, .slice e1 ta.length f1, .string tx] 31)) := hbw.trans (hbA.mono hbw.size)
      have d0 := bx.cell (i := 0) rfl
      have d1 := bx.cell (i := 1) rfl
      have d2 := bx.cell (i := 2) rfl
      have d3 := bx.cell (i := 3) rfl
      simp only at q1 p0 p1 p2 p3 hq1 hq2
      have q1W : Row (fun b => b < (wq.alloc (.cells #[.int .i64 tk, .string tn, .slice e1 ta.length f1, .string tx] 31)).heap.size) (wq.alloc (.cells #[.int .i64 tk, .string tn, .slice e1 ta.length f1, .string tx] 31)) 2 (.slice e1 ta.length f1) ta.length (cellsA ta) :=
        (q1.keep (fun b h => hbA.block b (Nat.lt_of_lt_of_le h.2 hbw.size))).mono (fun b h => Nat.lt_of_lt_of_le h.2 hbW.size)
      change Box (wq.alloc (.cells #[.int .i64 tk, .string tn, .slice e1 ta.length f1, .string tx] 31)) _ _ _ at bx
      have done : ∀ wz : World, Below (wq.alloc (.cells #[.int .i64 tk, .string tn, .slice e1 ta.length f1, .string tx] 31)).heap.size (wq.alloc (.cells #[.int .i64 tk, .string tn, .slice e1 ta.length f1, .string tx] 31)) wz → Below w2.heap.size w2 wz := fun wz h => hbW.trans (h.mono hbW.size)
      replace hlti := Lib.hid hlti
      rcases hst with ⟨hk, ⟨hn, hnz⟩, hx, h2, hat⟩ | ⟨hk, hn, h1, hx⟩
      · simp only at hk hn hnz hx h2 hat
        subst hx
        have hNm := Lib.hid (fun w => ref03Named tn w (by omega))
        rw [hn] at hNm
        replace hn := Lib.hid hn
        rcases hk with rfl | rfl
        · replace h2 := Lib.hid h2
          replace hat := Lib.hid hat
          go_wp2_with fail
          refine (hNm.out _).mono ?_
          rintro e _ ⟨rfl, rfl⟩
          go_wp2_with fail
          revert hbA hbW d0 d1 d2 d3 bx q1W done
          generalize World.alloc wq _ = wa
          intro hbA hbW d0 d1 d2 d3 q1W bx done
          replace done := Lib.hid done
          go_loopw [8, 9, 10, 11] (fun u8 _ _ _ wx => ∃ j : Nat, j ≤ ta.length ∧ u8 = .int .i64 (j : Int) ∧ Below wa.heap.size wa wx) (fun u8 _ _ _ _ => ta.length - (intOf u8).toNat)
          case atStart => exact ⟨0, by omega, rfl, Below.refl _ _⟩
          case round =>
            obtain ⟨j, hj, rfl, hbx⟩ := hrel
            by_cases hlj : j < ta.length
            · have bxx := bx.below hbx bx.lt
              have x2 := bxx.cell (i := 2) rfl
              obtain ⟨ga, oa, rfl, hga, s0, s1⟩ := (q1W.keep (fun b h => hbx.block b h)).atA j hlj
              obtain ⟨hat1, hat2⟩ := hat.out.1 ta[j] (List.getElem_mem hlj)
              have hvo := M5.valueOf_own ta hat.out.2 ta[j] (List.getElem_mem hlj)
              have hA := Lib.hid (fun w => ref03Attributed ta[j].name w (by omega))
              rw [hat1] at hA
              generalize ta[j].name = an at *
              generalize ta[j].value = av at *
              have hV : Hid (∀ W : World, Below wa.heap.size wa W → Calls Try.prog 27 #[.agg #[.int .i64 0, .string ⟨#[]⟩, .slice (some ⟨ga, oa, none⟩) ta.length f1, .string ⟨#[]⟩, .slice none 0 0], .string an] W (fun e w' => e = .returned (.tuple #[.string av, .bool true]) ∧ Below W.heap.size W w')) := Lib.hid (fun W hW => by
                have := ref03Value (fun b => b < wa.heap.size) (.mk 0 ⟨#[]⟩ ta ⟨#[]⟩ []) (.slice (some ⟨ga, oa, none⟩) ta.length f1) (.slice none 0 0) an W (fun b h => Nat.lt_of_lt_of_le h hW.size) (q1W.keep (fun b h => hW.block b h)) ⟨_, _, _, rfl⟩
                rw [show M3.valueOf an (Nd.mk 0 ⟨#[]⟩ ta ⟨#[]⟩ []).attrs = some av from hvo] at this
                exact this)
              replace hvo := Lib.hid hvo
              replace hat1 := Lib.hid hat1
              have hJ0 : (0 : Int) ≤ (j : Int) := by omega
              have hJ1 : (j : Int) < (ta.length : Int) := by omega
              go_wp2_with fail
              refine (hA.out _).mono ?_
              rintro e w6 ⟨rfl, hb6⟩
              have hb7 := bt hbx hb6
              have y2 := (bx.below hb7 bx.lt).cell (i := 2) rfl
              have hgl : ga < wa.heap.size := hga
              have t0 := cbelow5 hb6 s0 (by have := hbx.size; omega)
              have t1 := cbelow5 hb6 s1 (by have := hbx.size; omega)
              have hq6 : wq.heap.size < w6.heap.size := Nat.lt_of_lt_of_le bx.lt hb7.size
              have hg6 : ga < w6.heap.size := Nat.lt_of_lt_of_le hgl hb7.size
              go_upto_region 14 with fail
              refine wp_region_known (n := 15) ([some (.pointer (some ⟨wq.heap.size, 2, none⟩)), some (.slice (some ⟨ga, oa, none⟩) ta.length f1), some (.agg #[.int .i64 0, .string ⟨#[]⟩, .slice (some ⟨ga, oa, none⟩) ta.length f1, .string ⟨#[]⟩, .slice none 0 0]), some (.pointer (some ⟨wq.heap.size, 2, none⟩)), some (.slice (some ⟨ga, oa, none⟩) ta.length f1), some (Value.int IntKind.i64 (j : Int)), some (.pointer (some ⟨ga, oa + j * 2, none⟩)), some (.pointer (some ⟨ga, oa + j * 2, none⟩)), some (.string an), some (.tuple #[.string av, .bool true]), some (.tuple #[.string av, .bool true]), some (.string av), some (.bool true), some (.string av), some (.bool true)] : List (Option Value)) (fun t => ⟨#[Value.slice a l.length cap, undef, u2, Value.slice (some ⟨b1, o1, none⟩) T.length c2, Value.int IntKind.i64 (i : Int), Value.pointer (some ⟨wq.heap.size, 0, none⟩), Value.bool true, Value.bool true, Value.int IntKind.i64 (j : Int), Value.bool true, t 13, t 14, Value.slice a l.length cap, Value.string s, Value.slice (some ⟨b1, o1, none⟩) T.length c2, Value.int IntKind.i64 (i : Int), Value.slice (some ⟨b1, o1, none⟩) T.length c2, Value.int IntKind.i64 (T.length : Int), Value.bool true, u19, u20, Value.slice (some ⟨b1, o1, none⟩) T.length c2, Value.int IntKind.i64 (i : Int), Value.pointer (some ⟨b1, o1 + i * 4, none⟩), Value.agg #[Value.int IntKind.i64 1, Value.string tn, Value.slice (some ⟨ga, oa, none⟩) ta.length f1, Value.string { data := #[] }], Value.pointer (some ⟨wq.heap.size, 1, none⟩), Value.string tn, Value.bool true, Value.pointer (some ⟨wq.heap.size, 0, none⟩), Value.int IntKind.i64 1, Value.bool true, Value.bool true, undef, undef, undef, Value.bool true, Value.bool true, Value.bool false, Value.bool false, undef, undef, undef, Value.bool false, Value.bool false, undef, undef, undef, Value.bool false, Value.bool false, Value.bool true, Value.bool true, Value.bool true, Value.bool false, Value.bool false, Value.pointer (some ⟨wq.heap.size, 3, none⟩), Value.string { data := #[] }, Value.bool false, Value.bool false, Value.bool false, Value.bool false, Value.bool false, Value.bool true, Value.bool false, Value.bool false, undef, undef, undef, undef, undef, undef, undef, undef, undef, Value.bool false, Value.bool false, Value.bool false, Value.pointer (some ⟨wq.heap.size, 0, none⟩), Value.int IntKind.i64 1, Value.bool false, Value.bool false, undef, undef, undef, Value.bool false, Value.bool false, Value.bool false, Value.pointer (some ⟨wq.heap.size, 0, none⟩), Value.int IntKind.i64 1, Value.bool false, Value.bool false, undef, undef, undef, undef, Value.bool false, Value.bool false, Value.int IntKind.i64 (j : Int), Value.pointer (some ⟨wq.heap.size, 2, none⟩), Value.slice (some ⟨ga, oa, none⟩) ta.length f1, Value.int IntKind.i64 (ta.length : Int), Value.bool true, u101, u102, Value.pointer (some ⟨wq.heap.size, 2, none⟩), Value.slice (some ⟨ga, oa, none⟩) ta.length f1, Value.int IntKind.i64 (j : Int), Value.pointer (some ⟨ga, oa + j * 2, none⟩), Value.pointer (some ⟨ga, oa + j * 2, none⟩), Value.string an, Value.bool true, t 10, t 0, t 1, t 2, t 3, t 4, t 5, t 6, t 7, t 8, t 9, t 11, t 12, u123, u124, u125, u126, u127, u128, u129, u130, u131, u132, u133, u134, undef], []⟩) (fun f t W => Below w6.heap.size w6 W) (fun j => match j with | 0 => u111 | 1 => u112 | 2 => u113 | 3 => u114 | 4 => u115 | 5 => u116 | 6 => u117 | 7 => u118 | 8 => u119 | 9 => u120 | 10 => u110 | 11 => u121 | 12 => u122 | 13 => u10 | 14 => u11 | _ => undef) (by kernel_rfl) (by rfl) (by rfl) (by kernel_rfl) rfl ?i0 ?step ?fin
              case i0 =>
                exact (Below.refl _ w6).drew
              case step =>
                intro j0 hj0 f t W hfi hwt hk2 hI
                have s2 := cbelow5 hI y2 hq6
                have z0 := cbelow5 hI t0 hg6
                have z1 := cbelow5 hI t1 hg6
                obtain rfl | rfl | rfl | rfl | rfl | rfl | rfl | rfl | rfl | rfl | rfl | rfl | rfl | rfl | rfl : j0 = 0 ∨ j0 = 1 ∨ j0 = 2 ∨ j0 = 3 ∨ j0 = 4 ∨ j0 = 5 ∨ j0 = 6 ∨ j0 = 7 ∨ j0 = 8 ∨ j0 = 9 ∨ j0 = 10 ∨ j0 = 11 ∨ j0 = 12 ∨ j0 = 13 ∨ j0 = 14 := by omega
                · -- operation 0
                  replace hI := Lib.hid hI
                  replace hk2 := Lib.hid hk2
                  clear hwt
                  refine wpOp_step rfl (fun K hK => ?_)
                  go_simp
                  exact hK _ _ ⟨_, by simp [updT], hk2.out.at_ rfl, hI.out⟩
                · -- operation 1
                  have e0 : t 0 = .pointer (some ⟨wq.heap.size, 2, none⟩) := hk2 0 _ (hwt 0 (by kernel_rfl)) rfl
                  replace hI := Lib.hid hI
                  replace hk2 := Lib.hid hk2
                  clear hwt
                  refine wpOp_step rfl (fun K hK => ?_)
                  go_simp
                  exact hK _ _ ⟨_, by simp [updT, e0], hk2.out.at_ rfl, hI.out⟩
                · -- operation 2
                  have e1 : t 1 = .slice (some ⟨ga, oa, none⟩) ta.length f1 := hk2 1 _ (hwt 1 (by kernel_rfl)) rfl
                  replace hI := Lib.hid hI
                  replace hk2 := Lib.hid hk2
                  clear hwt
                  refine wpOp_step rfl (fun K hK => ?_)
                  go_simp
                  exact hK _ _ ⟨_, by simp [updT, e1], hk2.out.at_ rfl, hI.out⟩
                · -- operation 3
                  replace hI := Lib.hid hI
                  replace hk2 := Lib.hid hk2
                  clear hwt
                  refine wpOp_step rfl (fun K hK => ?_)
                  go_simp
                  exact hK _ _ ⟨_, by simp [updT], hk2.out.at_ rfl, hI.out⟩
                · -- operation 4
                  have e3 : t 3 = .pointer (some ⟨wq.heap.size, 2, none⟩) := hk2 3 _ (hwt 3 (by kernel_rfl)) rfl
                  replace hI := Lib.hid hI
                  replace hk2 := Lib.hid hk2
                  clear hwt
                  refine wpOp_step rfl (fun K hK => ?_)
                  go_simp
                  exact hK _ _ ⟨_, by simp [updT, e3], hk2.out.at_ rfl, hI.out⟩
                · -- operation 5
                  replace hI := Lib.hid hI
                  replace hk2 := Lib.hid hk2
                  clear hwt
                  refine wpOp_step rfl (fun K hK => ?_)
                  go_simp
                  exact hK _ _ ⟨_, by simp [updT], hk2.out.at_ rfl, hI.out⟩
                · -- operation 6
                  have e4 : t 4 = .slice (some ⟨ga, oa, none⟩) ta.length f1 := hk2 4 _ (hwt 4 (by kernel_rfl)) rfl
                  have e5 : t 5 = Value.int IntKind.i64 (j : Int) := hk2 5 _ (hwt 5 (by kernel_rfl)) rfl
                  replace hI := Lib.hid hI
                  replace hk2 := Lib.hid hk2
                  clear hwt
                  refine wpOp_step rfl (fun K hK => ?_)
                  go_simp
                  exact hK _ _ ⟨_, by simp [updT, e4, e5], hk2.out.at_ rfl, hI.out⟩
                · -- operation 7
                  have e6 : t 6 = .pointer (some ⟨ga, oa + j * 2, none⟩) := hk2 6 _ (hwt 6 (by kernel_rfl)) rfl
                  replace hI := Lib.hid hI
                  replace hk2 := Lib.hid hk2
                  clear hwt
                  refine wpOp_step rfl (fun K hK => ?_)
                  go_simp
                  exact hK _ _ ⟨_, by simp [updT, e6], hk2.out.at_ rfl, hI.out⟩
                · -- operation 8
                  have e7 : t 7 = .pointer (some ⟨ga, oa + j * 2, none⟩) := hk2 7 _ (hwt 7 (by kernel_rfl)) rfl
                  replace hI := Lib.hid hI
                  replace hk2 := Lib.hid hk2
                  clear hwt
                  refine wpOp_step rfl (fun K hK => ?_)
                  go_simp
                  exact hK _ _ ⟨_, by simp [updT, e7], hk2.out.at_ rfl, hI.out⟩
                · -- operation 9
                  have e2 : t 2 = .agg #[.int .i64 0, .string ⟨#[]⟩, .slice (some ⟨ga, oa, none⟩) ta.length f1, .string ⟨#[]⟩, .slice none 0 0] := hk2 2 _ (hwt 2 (by kernel_rfl)) rfl
                  have e8 : t 8 = .string an := hk2 8 _ (hwt 8 (by kernel_rfl)) rfl
                  have hC := Lib.hid (hV.out W (hb7.trans (hI.mono hb7.size)))
                  replace hk2 := Lib.hid hk2
                  replace hI := Lib.hid hI
                  clear hwt
                  refine wpOp_step rfl (fun K hK => ?_)
                  go_simp
                  refine hC.out.mono ?_
                  rintro e w5 ⟨rfl, hb5⟩
                  exact hK _ _ ⟨_, by simp [updT, e2, e8], hk2.out.at_ rfl, hI.out.trans (hb5.mono hI.out.size)⟩
                · -- operation 10
                  have e9 : t 9 = .tuple #[.string av, .bool true] := hk2 9 _ (hwt 9 (by kernel_rfl)) rfl
                  replace hI := Lib.hid hI
                  replace hk2 := Lib.hid hk2
                  clear hwt
                  refine wpOp_step rfl (fun K hK => ?_)
                  go_simp
                  exact hK _ _ ⟨_, by simp [updT, e9], hk2.out.at_ rfl, hI.out⟩
                · -- operation 11
                  have e10 : t 10 = .tuple #[.string av, .bool true] := hk2 10 _ (hwt 10 (by kernel_rfl)) rfl
                  replace hI := Lib.hid hI
                  replace hk2 := Lib.hid hk2
                  clear hwt
                  refine wpOp_step rfl (fun K hK => ?_)
                  go_simp
                  exact hK _ _ ⟨_, by simp [updT, e10], hk2.out.at_ rfl, hI.out⟩
                · -- operation 12
                  have e10 : t 10 = .tuple #[.string av, .bool true] := hk2 10 _ (hwt 10 (by kernel_rfl)) rfl
                  replace hI := Lib.hid hI
                  replace hk2 := Lib.hid hk2
                  clear hwt
                  refine wpOp_step rfl (fun K hK => ?_)
                  go_simp
                  exact hK _ _ ⟨_, by simp [updT, e10], hk2.out.at_ rfl, hI.out⟩
                · -- operation 13
                  have e11 : t 11 = .string av := hk2 11 _ (hwt 11 (by kernel_rfl)) rfl
                  replace hI := Lib.hid hI
                  replace hk2 := Lib.hid hk2
                  clear hwt
                  refine wpOp_step rfl (fun K hK => ?_)
                  go_simp
                  exact hK _ _ ⟨_, by simp [updT, e11], hk2.out.at_ rfl, hI.out⟩
                · -- operation 14
                  have e12 : t 12 = .bool true := hk2 12 _ (hwt 12 (by kernel_rfl)) rfl
                  replace hI := Lib.hid hI
                  replace hk2 := Lib.hid hk2
                  clear hwt
                  refine wpOp_step rfl (fun K hK => ?_)
                  go_simp
                  exact hK _ _ ⟨_, by simp [updT, e12], hk2.out.at_ rfl, hI.out⟩
              case fin =>
                intro f t W hall hk2 hI
                have e13 : t 13 = .string av := hk2 13 _ (hall 13 (by omega)) rfl
                have hb8 : Below wa.heap.size wa W := hb7.trans (hI.mono hb7.size)
                have y3 := cbelow5 hI y2 hq6
                have z0 := cbelow5 hI t0 hg6
                have z1 := cbelow5 hI t1 hg6
                clear hk2 hall hI
                dsimp only
                rw [e13]
                go_wp2_with fail
                go_roundw
                case rel => exact ⟨j + 1, by omega, by go_num, hb8⟩
                case measure => exact sh_meas hlj
            · have hfin := done.out _ hbx
              have x2 := (bx.below hbx bx.lt).cell (i := 2) rfl
              go_wp2_with fail
              go_roundw
              case rel => exact ⟨i + 1, by omega, by go_num, hfin⟩
              case measure => exact sh_meas hlt
        · obtain rfl : ta = [] := h2 rfl
          replace h2 := Lib.hid h2
          replace hat := Lib.hid hat
          go_wp2_with fail
          refine (hNm.out _).mono ?_
          rintro e _ ⟨rfl, rfl⟩
          go_wp2_with fail
          revert hbA hbW d0 d1 d2 d3 bx q1W done
          generalize World.alloc wq _ = wa
          intro hbA hbW d0 d1 d2 d3 q1W bx done
          go_loopw [8, 9, 10, 11] (fun u8 _ _ _ wx => u8 = .int .i64 0 ∧ Below wa.heap.size wa wx) (fun _ _ _ _ _ => 0)
          case atStart => exact ⟨rfl, Below.refl _ _⟩
          case round =>
            obtain ⟨rfl, hbx⟩ := hrel
            have x2 := (bx.below hbx bx.lt).cell (i := 2) rfl
            have hfin := done _ hbx
            replace done := Lib.hid done
            go_wp2_with fail
            go_roundw
            case rel => exact ⟨i + 1, by omega, by go_num, hfin⟩
            case measure => exact sh_meas hlt
      · simp only at hk hn h1 hx
        subst hn
        subst h1
        have hNm := Lib.hid (fun w => ref03Named ⟨#[]⟩ w (by decide))
        rw [show M3.namedB (⟨#[]⟩ : ByteArray).data.toList = false from rfl] at hNm
        rcases hk with rfl | rfl
        · have hem : tx.toList.isEmpty = false := isEmpty_no tx (by have := hx rfl; omega)
          replace hx := Lib.hid hx
          go_wp2_with fail
          refine (hNm.out _).mono ?_
          rintro e _ ⟨rfl, rfl⟩
          go_wp2_with fail
          revert hbA hbW d0 d1 d2 d3 bx q1W done
          generalize World.alloc wq _ = wa
          intro hbA hbW d0 d1 d2 d3 q1W bx done
          go_loopw [8, 9, 10, 11] (fun u8 _ _ _ wx => u8 = .int .i64 0 ∧ Below wa.heap.size wa wx) (fun _ _ _ _ _ => 0)
          case atStart => exact ⟨rfl, Below.refl _ _⟩
          case round =>
            obtain ⟨rfl, hbx⟩ := hrel
            have x2 := (bx.below hbx bx.lt).cell (i := 2) rfl
            have hfin := done _ hbx
            replace done := Lib.hid done
            go_wp2_with fail
            go_roundw
            case rel => exact ⟨i + 1, by omega, by go_num, hfin⟩
            case measure => exact sh_meas hlt
        · replace hx := Lib.hid hx
          go_wp2_with fail
          refine (hNm.out _).mono ?_
          rintro e _ ⟨rfl, rfl⟩
          go_wp2_with fail
          revert hbA hbW d0 d1 d2 d3 bx q1W done
          generalize World.alloc wq _ = wa
          intro hbA hbW d0 d1 d2 d3 q1W bx done
          go_loopw [8, 9, 10, 11] (fun u8 _ _ _ wx => u8 = .int .i64 0 ∧ Below wa.heap.size wa wx) (fun _ _ _ _ _ => 0)
          case atStart => exact ⟨rfl, Below.refl _ _⟩
          case round =>
            obtain ⟨rfl, hbx⟩ := hrel
            have x2 := (bx.below hbx bx.lt).cell (i := 2) rfl
            have hfin := done _ hbx
            replace done := Lib.hid done
            go_wp2_with fail
            go_roundw
            case rel => exact ⟨i + 1, by omega, by go_num, hfin⟩
            case measure => exact sh_meas hlt
    · obtain rfl : i = T.length := by omega
      have hbb := hb12.trans (hbw.mono hb12.size)
      go_wp2_with fail
      refine (lives05 _ (hg.below hbb (Nat.le_refl _))).mono ?_
      rintro e w5 ⟨rfl, hb5⟩
      have hbb2 := bt hbb hb5
      go_wp2_with fail
      go_ret
      exact ⟨rfl, hbb2⟩
end Go.Proofs.Ytlknmnldblodbaa
