/- Layer 3 by plain definitions: merged two ways, merged twice, and which merged nodes may be; nodes that may be, made of any. No program in it. -/
import Derived.Test.YtjelmpajphajfaaMath3
namespace Go.Proofs.Ytjelmpajphajfaa
namespace M3

theorem cat_data (s t : ByteArray) : (cat s t).data.toList = s.data.toList ++ t.data.toList := by simp [cat]
theorem nilB_data' (s : ByteArray) : nilB s = s.data.toList.isEmpty := by unfold nilB; rw [ByteArray.toList_eq]
theorem nilB_cat (s t : ByteArray) : nilB (cat s t) = (nilB s && nilB t) := by
  rw [nilB_data', nilB_data', nilB_data', cat_data]
  cases s.data.toList <;> cases t.data.toList <;> rfl
theorem cat_assoc (s t u : ByteArray) : cat (cat s t) u = cat s (cat t u) := by simp [cat]
theorem cat_nil (s : ByteArray) : cat s ⟨#[]⟩ = s := by cases s; simp [cat]
theorem withText_self (x : Nd) : withText x x.text = x := by cases x; rfl
theorem withText_kind (x : Nd) (t : ByteArray) : (withText x t).kind = x.kind := by cases x; rfl
theorem withText_text (x : Nd) (t : ByteArray) : (withText x t).text = t := by cases x; rfl
theorem withText_kids (x : Nd) (t : ByteArray) : (withText x t).kids = x.kids := by cases x; rfl
theorem withText_attrs (x : Nd) (t : ByteArray) : (withText x t).attrs = x.attrs := by cases x; rfl
theorem withText_name (x : Nd) (t : ByteArray) : (withText x t).name = x.name := by cases x; rfl
theorem withText_two (x : Nd) (s t : ByteArray) : withText (withText x s) t = withText x t := by cases x; rfl

def isText (x : Nd) : Bool := x.kind == 2
def bareB (x : Nd) : Bool := isText x && nilB x.text
theorem bareB_iff {x : Nd} : bareB x = true ↔ x.kind = 2 ∧ nilB x.text = true := by simp [bareB, isText]
theorem push_bare {out : List Nd} {x : Nd} (h : bareB x = true) : push out x = out := by unfold push; rw [if_pos (bareB_iff.1 h)]
theorem push_none {x : Nd} (h : bareB x = false) : push [] x = [x] := by
  unfold push
  rw [if_neg (by rw [← bareB_iff]; simp [h])]
  rfl
theorem push_snoc {out : List Nd} {x y : Nd} (h : bareB x = false) : push (out ++ [y]) x = if isText x && isText y then out ++ [withText y (cat y.text x.text)] else out ++ [y] ++ [x] := by
  unfold push
  rw [if_neg (by rw [← bareB_iff]; simp [h])]
  simp [isText]
theorem merge_nil : merge [] = [] := rfl
theorem merge_snoc (l : List Nd) (x : Nd) : merge (l ++ [x]) = push (merge l) x := by simp [merge]

/-- One text of the texts that nodes begin with. -/
def joinT : List Nd → ByteArray
  | [] => ⟨#[]⟩
  | x :: r => if isText x then cat x.text (joinT r) else ⟨#[]⟩
def runT (l : List Nd) : Nat := (l.takeWhile isText).length
theorem runT_le (l : List Nd) : runT l ≤ l.length := (List.takeWhile_prefix isText).length_le
theorem joinT_yes {x : Nd} (r : List Nd) (h : isText x = true) : joinT (x :: r) = cat x.text (joinT r) := by rw [joinT, if_pos h]
theorem joinT_no {x : Nd} (r : List Nd) (h : isText x = false) : joinT (x :: r) = ⟨#[]⟩ := by rw [joinT, if_neg (by simp [h])]
theorem runT_yes {x : Nd} (r : List Nd) (h : isText x = true) : runT (x :: r) = runT r + 1 := by simp [runT, h]
theorem runT_no {x : Nd} (r : List Nd) (h : isText x = false) : runT (x :: r) = 0 := by simp [runT, h]

/-- Texts side by side as one, from the front. -/
def front : List Nd → List Nd
  | [] => []
  | x :: r => if isText x then withText x (cat x.text (joinT r)) :: front (r.drop (runT r)) else x :: front r
termination_by l => l.length
decreasing_by
  · simp only [List.length_drop, List.length_cons]; omega
  · simp
theorem front_nil : front [] = [] := by rw [front]
theorem front_yes {x : Nd} (r : List Nd) (h : isText x = true) : front (x :: r) = withText x (joinT (x :: r)) :: front ((x :: r).drop (runT (x :: r))) := by
  rw [front, if_pos h, joinT_yes r h, runT_yes r h]
  rfl
theorem front_no {x : Nd} (r : List Nd) (h : isText x = false) : front (x :: r) = x :: front r := by rw [front, if_neg (by simp [h])]

theorem filled_nil : filled [] = [] := rfl
theorem filled_cons (x : Nd) (l : List Nd) : filled (x :: l) = if bareB x then filled l else x :: filled l := by
  unfold filled
  rw [List.filter_cons]
  show (if (!(bareB x)) = true then _ else _) = _
  cases bareB x <;> rfl
theorem filled_append (a b : List Nd) : filled (a ++ b) = filled a ++ filled b := by simp [filled]
theorem filled_snoc (l : List Nd) (x : Nd) : filled (l ++ [x]) = if bareB x then filled l else filled l ++ [x] := by
  rw [filled_append, filled_cons, filled_nil]
  cases bareB x <;> simp
theorem filled_all (l : List Nd) : ∀ x ∈ filled l, bareB x = false := by
  intro x hx
  have := (List.mem_filter.1 hx).2
  show bareB x = false
  change (!(bareB x)) = true at this
  simpa using this
theorem filled_mem {l : List Nd} {x : Nd} (h : x ∈ filled l) : x ∈ l := (List.mem_filter.1 h).1
theorem foldl_filled (l : List Nd) : ∀ out, l.foldl push out = (filled l).foldl push out := by
  induction l with
  | nil => intro out; rfl
  | cons x r ih =>
    intro out
    rw [filled_cons, List.foldl_cons]
    cases h : bareB x
    · simp only [Bool.false_eq_true, if_false, List.foldl_cons]; exact ih _
    · rw [push_bare h, if_pos rfl]; exact ih _

/-- From the front and from behind are one. -/
theorem fold_texts (l : List Nd) : ∀ (out : List Nd) (y : Nd), (∀ x ∈ l, bareB x = false) → isText y = true → l.foldl push (out ++ [y]) = (l.drop (runT l)).foldl push (out ++ [withText y (cat y.text (joinT l))]) := by
  induction l with
  | nil => intro out y _ _; rw [joinT, cat_nil, withText_self]; rfl
  | cons x r ih =>
    intro out y hb hy
    have hx := hb x (by simp)
    cases ht : isText x
    · rw [joinT_no r ht, runT_no r ht, cat_nil, withText_self]; rfl
    · rw [List.foldl_cons, push_snoc hx, ht, hy, Bool.and_true, if_pos rfl, ih _ _ (fun z hz => hb z (by simp [hz])) (by rw [isText, withText_kind]; exact hy), joinT_yes r ht, runT_yes r ht, withText_text, withText_two, cat_assoc]
      rfl
theorem drop_run_head (l : List Nd) : ∀ x, (l.drop (runT l)).head? = some x → isText x = false := by
  induction l with
  | nil => intro x h; simp at h
  | cons y r ih =>
    intro x h
    cases ht : isText y
    · rw [runT_no r ht] at h; simp at h; subst h; exact ht
    · rw [runT_yes r ht] at h; exact ih x (by simpa using h)
theorem fold_front (n : Nat) : ∀ (l out : List Nd), l.length ≤ n → (∀ x ∈ l, bareB x = false) → (∀ y x, out.getLast? = some y → l.head? = some x → (isText x && isText y) = false) → l.foldl push out = out ++ front l := by
  induction n with
  | zero => intro l out hl _ _; obtain rfl : l = [] := List.eq_nil_of_length_eq_zero (by omega); rw [front_nil]; simp
  | succ n ih =>
    intro l out hl hb hj
    cases l with
    | nil => rw [front_nil]; simp
    | cons x r =>
      have hx := hb x (by simp)
      have hp : push out x = out ++ [x] := by
        rcases List.eq_nil_or_concat out with rfl | ⟨o, y, rfl⟩
        · rw [push_none hx]; rfl
        · rw [List.concat_eq_append, push_snoc hx, hj y x (by simp) rfl]; simp
      rw [List.foldl_cons, hp]
      cases ht : isText x
      · rw [front_no r ht, ih r _ (by simpa using hl) (fun z hz => hb z (by simp [hz])) (fun y z hy hz => by simp at hy; subst hy; rw [ht, Bool.and_false]), List.append_assoc]; rfl
      · rw [fold_texts r out x (fun z hz => hb z (by simp [hz])) ht, ih _ _ (by simp at hl ⊢; omega) (fun z hz => hb z (by simp [List.mem_of_mem_drop hz])) (fun y z hy hz => by rw [drop_run_head r z hz]; rfl), front_yes r ht, joinT_yes r ht, runT_yes r ht, List.append_assoc]
        rfl
theorem merge_front (l : List Nd) : merge l = front (filled l) := by
  unfold merge
  rw [foldl_filled, fold_front _ _ [] (Nat.le_refl _) (filled_all l) (fun y x hy => by simp at hy)]
  rfl

/-- No empty text, none right behind a text. -/
def apart : Bool → List Nd → Bool
  | _, [] => true
  | p, x :: r => !(isText x && (nilB x.text || p)) && apart (isText x) r
theorem apart_iff {p : Bool} {x : Nd} {r : List Nd} : apart p (x :: r) = true ↔ (isText x = true → nilB x.text = false ∧ p = false) ∧ apart (isText x) r = true := by
  rw [apart]
  cases isText x <;> cases nilB x.text <;> cases p <;> simp
theorem apart_weak {p : Bool} {l : List Nd} (h : apart p l = true) : apart false l = true := by
  cases l with
  | nil => rfl
  | cons x r => rw [apart_iff] at h ⊢; exact ⟨fun a => ⟨(h.1 a).1, rfl⟩, h.2⟩
theorem merge_apart (l : List Nd) : ∀ out : List Nd, (∀ y, out.getLast? = some y → apart (isText y) l = true) → apart false l = true → l.foldl push out = out ++ l := by
  induction l with
  | nil => intro out _ _; simp
  | cons x r ih =>
    intro out h1 h2
    rw [apart_iff] at h2
    have hx : bareB x = false := by
      rw [bareB]; cases ht : isText x
      · rfl
      · rw [(h2.1 ht).1]; rfl
    have hp : push out x = out ++ [x] := by
      rcases List.eq_nil_or_concat out with rfl | ⟨o, y, rfl⟩
      · rw [push_none hx]; rfl
      · rw [List.concat_eq_append] at h1 ⊢
        have h3 := h1 y (by simp)
        rw [apart_iff] at h3
        rw [push_snoc hx]
        have : (isText x && isText y) = false := by
          cases ht : isText x
          · rfl
          · rw [(h3.1 ht).2]; rfl
        rw [this]; simp
    rw [List.foldl_cons, hp, ih _ (fun y hy => by simp at hy; subst hy; exact h2.2) (apart_weak h2.2)]
    simp
theorem apart_front (n : Nat) : ∀ (l : List Nd) (p : Bool), l.length ≤ n → (∀ x ∈ l, bareB x = false) → (∀ x, l.head? = some x → (isText x && p) = false) → apart p (front l) = true := by
  induction n with
  | zero => intro l p hl _ _; obtain rfl : l = [] := List.eq_nil_of_length_eq_zero (by omega); rw [front_nil]; rfl
  | succ n ih =>
    intro l p hl hb hj
    cases l with
    | nil => rw [front_nil]; rfl
    | cons x r =>
      have hx := hb x (by simp)
      have hjx := hj x rfl
      cases ht : isText x
      · rw [front_no r ht, apart, ih r _ (by simpa using hl) (fun z hz => hb z (by simp [hz])) (fun z _ => by rw [ht, Bool.and_false]), ht]; rfl
      · have h1 : isText (withText x (joinT (x :: r))) = true := by rw [isText, withText_kind]; exact ht
        have h2 : nilB (joinT (x :: r)) = false := by
          rw [joinT_yes r ht, nilB_cat]
          have : nilB x.text = false := by rw [bareB, ht] at hx; simpa using hx
          rw [this]; rfl
        rw [ht, Bool.true_and] at hjx
        rw [front_yes r ht, apart, h1, withText_text, h2, hjx, ih _ _ (by rw [runT_yes r ht]; simp at hl ⊢; omega) (fun z hz => hb z (List.mem_of_mem_drop hz)) (fun z hz => by rw [drop_run_head (x :: r) z hz]; rfl)]
        rfl
theorem merge_apart' (l : List Nd) : apart false (merge l) = true := by
  rw [merge_front]
  exact apart_front _ _ _ (Nat.le_refl _) (filled_all l) (fun x _ => Bool.and_false _)
theorem merge_merge (l : List Nd) : merge (merge l) = merge l := by
  have h := merge_apart (merge l) [] (fun y hy => by simp at hy) (merge_apart' l)
  simpa [merge] using h

/-- What all of nodes keep, if merging does. -/
theorem merge_all {P : Nd → Prop} (hP : ∀ x y, P x → P y → isText x = true → isText y = true → P (withText x (cat x.text y.text))) (l : List Nd) (h : ∀ x ∈ l, P x) : ∀ x ∈ merge l, P x := by
  have key : ∀ (l out : List Nd), (∀ x ∈ l, P x) → (∀ x ∈ out, P x) → ∀ x ∈ l.foldl push out, P x := by
    intro l
    induction l with
    | nil => intro out _ ho; exact ho
    | cons x r ih =>
      intro out hl ho
      rw [List.foldl_cons]
      refine ih _ (fun z hz => hl z (by simp [hz])) ?_
      have hx := hl x (by simp)
      cases hb : bareB x
      · rcases List.eq_nil_or_concat out with rfl | ⟨o, y, rfl⟩
        · rw [push_none hb]; simpa using hx
        · rw [List.concat_eq_append] at ho ⊢
          rw [push_snoc hb]
          split
          · rename_i hc
            simp at hc
            intro z hz
            rcases List.mem_append.1 hz with hz | hz
            · exact ho z (by simp [hz])
            · simp at hz; subst hz
              exact hP y x (ho y (by simp)) hx hc.2 hc.1
          · intro z hz
            rcases List.mem_append.1 hz with hz | hz
            · exact ho z hz
            · simp at hz; subst hz; exact hx
      · rw [push_bare hb]; exact ho
  exact key l [] h (fun x hx => by cases hx)

/-- A node that may be anywhere but for its being an empty text, or behind a text. -/
def okP (x : Nd) : Prop := if isText x then plainB x = true ∧ M1.isB x.text.data.toList = true else oneE x false = 0 ∧ mayE false x.kids = 0
theorem plain_kids {x : Nd} (h : plainB x = true) : x.kids = [] := by simp [plainB] at h; exact h.2
theorem may_of_ok (l : List Nd) : ∀ p, (∀ x ∈ l, okP x) → apart p l = true → mayE p l = 0 := by
  induction l with
  | nil => intro p _ _; exact mayE_nil p
  | cons x r ih =>
    intro p h hap
    have hx := h x (by simp)
    rw [apart_iff] at hap
    rw [mayE_cons]
    unfold okP at hx
    cases ht : isText x
    · rw [ht] at hx
      simp only [Bool.false_eq_true, if_false] at hx
      have h1 : oneE x p = oneE x false := by
        have : ¬ x.kind = 2 := by simpa [isText] using ht
        unfold oneE
        rw [if_neg this, if_neg this]
      have h2 : (x.kind == 2) = false := ht
      rw [h1, hx.1, hx.2, h2]
      simp only [ne_eq, not_true_eq_false, if_false]
      exact ih false (fun z hz => h z (by simp [hz])) (by have h := hap.2; rwa [ht] at h)
    · rw [ht, if_pos rfl] at hx
      have hk : x.kind = 2 := by simpa [isText] using ht
      have h1 : oneE x p = 0 := by
        unfold oneE
        rw [if_neg (by omega), if_pos hk, if_pos hx.1, hx.2, (hap.1 ht).1, (hap.1 ht).2]
        rfl
      rw [h1, plain_kids hx.1, mayE_nil]
      have h2 : (x.kind == 2) = true := ht
      rw [h2]
      simp only [ne_eq, not_true_eq_false, if_false]
      exact ih true (fun z hz => h z (by simp [hz])) (by have h := hap.2; rwa [ht] at h)
theorem isB_append {a b : List UInt8} (ha : M1.isB a = true) (hb : M1.isB b = true) : M1.isB (a ++ b) = true := by
  rw [← (M1.isB_right_iff a).1 ha, ← (M1.isB_right_iff b).1 hb]
  exact M1.isB_join a b
theorem okP_cat (x y : Nd) (hx : okP x) (hy : okP y) (h1 : isText x = true) (h2 : isText y = true) : okP (withText x (cat x.text y.text)) := by
  have ht : isText (withText x (cat x.text y.text)) = true := by rw [isText, withText_kind]; exact h1
  unfold okP at *
  rw [h1, if_pos rfl] at hx
  rw [h2, if_pos rfl] at hy
  rw [ht, if_pos rfl]
  refine ⟨?_, ?_⟩
  · have := hx.1; cases x; exact this
  · rw [withText_text, cat_data]; exact isB_append hx.2 hy.2
theorem may_merge (l : List Nd) (h : ∀ x ∈ l, okP x) : mayE false (merge l) = 0 := may_of_ok _ _ (merge_all okP_cat l h) (merge_apart' l)
end M3
end Go.Proofs.Ytjelmpajphajfaa
