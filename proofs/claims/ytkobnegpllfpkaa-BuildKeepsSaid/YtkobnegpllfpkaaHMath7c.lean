/- A text over joined ones: Math7c. -/
import Derived.Test.YtkobnegpllfpkaaH1
import Derived.Test.YtkobnegpllfpkaaH2
import Derived.Test.YtkobnegpllfpkaaH3
import Derived.Test.YtkobnegpllfpkaaH4
import Derived.Test.YtkobnegpllfpkaaH5
import Derived.Test.YtkobnegpllfpkaaH6
import Derived.Test.YtkobnegpllfpkaaH7
/- Layer 7: a tree has its shape. No program in it. -/
namespace Go.Proofs.Ytkobnegpllfpkaa
namespace M7
open M3 (isText withText cat push)

def lastT (pt : Bool) (L : List Nd) : Bool := match L.getLast? with | some y => y.kind == 2 | none => pt
theorem lastT_cons (pt : Bool) (y : Nd) (r : List Nd) : lastT pt (y :: r) = lastT (y.kind == 2) r := by
  unfold lastT
  rw [List.getLast?_cons]
  cases r.getLast? <;> rfl
theorem lastT_snoc (pt : Bool) (A : List Nd) (y : Nd) : lastT pt (A ++ [y]) = (y.kind == 2) := by unfold lastT; simp
theorem shapeR_nil (p : ByteArray) (pt : Bool) : shapeR p pt [] = true := by rw [shapeR]
theorem shapeR_snoc (p : ByteArray) (A : List Nd) (x : Nd) : ∀ pt, shapeR p pt (A ++ [x]) = (shapeR p pt A && (!(headBad p (lastT pt A) x) && shapeB x.name x.kids)) := by
  induction A with
  | nil => intro pt; rw [List.nil_append, shapeR_cons, shapeR_nil, shapeR_nil]; simp [lastT]
  | cons y r ih => intro pt; rw [List.cons_append, shapeR_cons, shapeR_cons, ih, lastT_cons]; simp only [Bool.and_assoc]
theorem shapeB_leaf (p : ByteArray) : shapeB p [] = true := by unfold shapeB; rw [shapeR_nil]; simp
theorem empty_nil (s : ByteArray) : s.toList.isEmpty = M3.nilB s := by
  rw [M3.nilB_data', Lib.toList_data]
theorem head_new {p : ByteArray} {pt : Bool} {n : Nd} (hb : M3.bareB n = false) (hc : n.kind = 1 → M6.closesB p.data.toList n.name.data.toList = false) (hp : n.kind = 2 → pt = false) : headBad p pt n = false := by
  unfold headBad
  rw [empty_nil]
  unfold M3.bareB M3.isText at hb
  by_cases h1 : n.kind = 1
  · rw [hc h1, h1]; rfl
  · by_cases h2 : n.kind = 2
    · rw [h2] at hb ⊢
      have : M3.nilB n.text = false := by simpa using hb
      rw [this, hp h2]; rfl
    · have e1 : (n.kind == 1) = false := beq_false_of_ne h1
      have e2 : (n.kind == 2) = false := beq_false_of_ne h2
      rw [e1, e2]; rfl
theorem push_shape {p : ByteArray} {L : List Nd} {n : Nd} (h : shapeR p false L = true) (hk : n.kids = []) (hc : n.kind = 1 → M6.closesB p.data.toList n.name.data.toList = false) : shapeR p false (push L n) = true := by
  cases hb : M3.bareB n
  · rcases List.eq_nil_or_concat L with rfl | ⟨A, y, rfl⟩
    · rw [M3.push_none hb, shapeR_cons, shapeR_nil, hk, shapeB_leaf, head_new hb hc (fun _ => rfl)]; rfl
    · rw [List.concat_eq_append] at *
      rw [M3.push_snoc hb]
      split
      · rename_i ht
        obtain ⟨ht1, ht2⟩ : isText n = true ∧ isText y = true := by simpa using ht
        rw [shapeR_snoc] at h ⊢
        obtain ⟨h1, h2, h3⟩ : shapeR p false A = true ∧ headBad p (lastT false A) y = false ∧ shapeB y.name y.kids = true := by simpa using h
        have hy : y.kind = 2 := by simpa [isText] using ht2
        have e : headBad p (lastT false A) (withText y (cat y.text n.text)) = false := by
          unfold headBad at h2 ⊢
          rw [empty_nil] at h2 ⊢
          change (((y.kind == 1) && M6.closesB p.data.toList y.name.data.toList) || ((y.kind == 2) && (M3.nilB (cat y.text n.text) || lastT false A))) = false
          rw [hy] at h2 ⊢
          have h4 : M3.nilB y.text = false ∧ lastT false A = false := by simpa using h2
          have h5 : M3.nilB (cat y.text n.text) = false := by
            have h6 := h4.1
            rw [M3.nilB_data'] at h6 ⊢
            cases hq : y.text.data.toList with
            | nil => rw [hq] at h6; cases h6
            | cons a r => show ((y.text.data.toList ++ n.text.data.toList).toArray.toList).isEmpty = false; rw [hq]; rfl
          rw [h5, h4.2]; rfl
        rw [h1, e]
        change (true && (!false && shapeB y.name y.kids)) = true
        rw [h3]; rfl
      · rename_i ht
        rw [shapeR_snoc, h, lastT_snoc, hk, shapeB_leaf, head_new hb hc (fun hn => by
          cases hy : (y.kind == 2)
          · rfl
          · exact absurd (by simp [isText, hn] at ht ⊢; simpa using hy) ht)]
        rfl
  · rw [M3.push_bare hb]; exact h

def lastN (p : ByteArray) (o : List ByteArray) : ByteArray := o.getLast?.getD p
theorem lastN_cons (p x : ByteArray) (o : List ByteArray) : lastN p (x :: o) = lastN x o := by unfold lastN; rw [List.getLast?_cons]; rfl
theorem putN_shape {d : Nat} {n : Nd} (hk : n.kids = []) : ∀ {L : List Nd} {p : ByteArray}, okD d L → shapeB p L = true → M3.voidB p.data.toList = false → (∀ nm ∈ openN d L, M3.voidB nm.data.toList = false) →
    (n.kind = 1 → M6.closesB (lastN p (openN d L)).data.toList n.name.data.toList = false) → shapeB p (putN d n L) = true := by
  induction d with
  | zero =>
    intro L p _ h hv _ hc
    unfold shapeB at h ⊢
    rw [hv] at h ⊢
    have h1 : shapeR p false L = true := by simpa using h
    rw [show putN 0 n L = push L n from rfl, push_shape h1 hk hc]; rfl
  | succ d ih =>
    intro L p hok h hv ho hc
    rcases List.eq_nil_or_concat L with rfl | ⟨A, x, rfl⟩
    · exact hok.elim
    · rw [List.concat_eq_append] at *
      rw [okD_snoc] at hok
      rw [openN_snoc] at ho hc
      rw [lastN_cons] at hc
      rw [putN_snoc]
      unfold shapeB at h ⊢
      rw [hv] at h ⊢
      rw [shapeR_snoc] at h ⊢
      obtain ⟨h1, h2, h3⟩ : shapeR p false A = true ∧ headBad p (lastT false A) x = false ∧ shapeB x.name x.kids = true := by simpa using h
      have h4 := ih hok h3 (ho _ (by simp)) (fun nm hn => ho nm (by simp [hn])) hc
      have e : headBad p (lastT false A) (wk x (putN d n x.kids)) = headBad p (lastT false A) x := rfl
      rw [h1, e, h2]
      change (!(false && _) && (true && (!false && shapeB x.name (putN d n x.kids)))) = true
      rw [h4]; rfl

def St.good (s : St) : Prop := s.ok ∧ shapeB ⟨#[]⟩ s.L = true ∧ ∀ nm ∈ openN s.d s.L, M3.voidB nm.data.toList = false
theorem closeAt_stop (o : List ByteArray) (b : ByteArray) (n : Nat) : closeAt o b n = 0 ∨ M6.closesB (o.getD (closeAt o b n - 1) ⟨#[]⟩).data.toList b.data.toList = false := by
  induction n with
  | zero => exact .inl rfl
  | succ n ih =>
    rw [closeAt]
    split
    · exact ih
    · rename_i h
      exact .inr (by simpa using h)
theorem lastN_take {o : List ByteArray} {n : Nat} (hn : n ≤ o.length) : lastN ⟨#[]⟩ (o.take n) = if n = 0 then ⟨#[]⟩ else o.getD (n - 1) ⟨#[]⟩ := by
  unfold lastN
  split
  · rename_i h; rw [h]; rfl
  · rename_i h
    rw [List.getLast?_eq_getElem?, List.length_take, Nat.min_eq_left hn, List.getElem?_take, if_pos (by omega)]
    rfl
theorem step_good {s : St} (t : Tok) (h : s.good) : (step s t).good := by
  refine ⟨step_ok t h.1, ?_⟩
  obtain ⟨h1, h2, h3⟩ := h
  have hol := openN_len h1
  unfold step
  split
  · have hn := closeAt_le (openN s.d s.L) t.name s.d
    have hst := closeAt_stop (openN s.d s.L) t.name s.d
    generalize closeAt (openN s.d s.L) t.name s.d = n at *
    have k1 := okD_pre h1 hn
    have kt := openN_take h1 hn
    have k3 : ∀ nm ∈ openN n s.L, M3.voidB nm.data.toList = false := fun nm hm => h3 nm (by rw [kt] at hm; exact List.mem_of_mem_take hm)
    refine ⟨putN_shape rfl k1 h2 rfl k3 (fun _ => ?_), ?_⟩
    · rw [kt, lastN_take (by rw [hol]; exact hn)]
      split
      · rfl
      · rename_i h0
        rcases hst with h | h
        · exact absurd h h0
        · exact h
    · show ∀ nm ∈ openN (if M3.voidB t.name.data.toList then n else n + 1) (putN n (elT t) s.L), M3.voidB nm.data.toList = false
      split
      · rw [(put_keeps _ k1).2.1]; exact k3
      · rename_i hv
        rw [(put_open (elT t) k1 rfl).2.1]
        intro nm hm
        rcases List.mem_append.1 hm with hm | hm
        · exact k3 nm hm
        · rw [List.mem_singleton.1 hm]
          exact Bool.eq_false_iff.2 hv
  split
  · split
    · rename_i i he
      have hi := endAt_lt _ _ _ _ he
      refine ⟨h2, fun nm hm => h3 nm ?_⟩
      have hm : nm ∈ openN i s.L := hm
      rw [openN_take h1 (Nat.le_of_lt hi)] at hm
      exact List.mem_of_mem_take hm
    · exact ⟨h2, h3⟩
  split
  · exact ⟨putN_shape rfl h1 h2 rfl h3 (fun h => by cases h), by show ∀ nm ∈ openN s.d (putN s.d (txT t) s.L), _; rw [(put_keeps _ h1).2.1]; exact h3⟩
  split
  · exact ⟨putN_shape rfl h1 h2 rfl h3 (fun h => by cases h), by show ∀ nm ∈ openN s.d (putN s.d (coT t) s.L), _; rw [(put_keeps _ h1).2.1]; exact h3⟩
  · exact ⟨h2, h3⟩
theorem tree_shape (l : List Tok) : shapeB ⟨#[]⟩ (tree l) = true := by
  have key : ∀ (l : List Tok) (s : St), s.good → (l.foldl step s).good := by
    intro l
    induction l with
    | nil => intro s h; exact h
    | cons t r ih => intro s h; exact ih _ (step_good t h)
  exact (key l ⟨[], 0⟩ ⟨trivial, shapeB_leaf _, fun nm hm => by cases hm⟩).2.1
end M7
end Go.Proofs.Ytkobnegpllfpkaa

