/- Texts joined: Math8d, Math8e, Math8f, Con, Mod2, Ref06b, Mod3, Ref06c, Law08m. -/
import Derived.Test.YteefodibpjgicaaGreatRows
import Derived.Shelf.LaysM
import Derived.Shelf.Strings.Search3
import Derived.Shelf.Strings.Shaped
import Derived.Test.YteefodibpjgicaaGreatM1
import Derived.Test.YteefodibpjgicaaGreatM2
import Derived.Test.YteefodibpjgicaaGreatM3
import Derived.Test.YteefodibpjgicaaGreatM4
import Derived.Test.YteefodibpjgicaaGreatM5
import Derived.Test.YteefodibpjgicaaGreatM6
import Derived.Test.YteefodibpjgicaaGreatM7
import Derived.Test.YteefodibpjgicaaGreatM8
import Derived.Test.YteefodibpjgicaaGreatM9
/- Layer 8: what a right text is parsed as is stable. No program in it. -/
namespace Go.Proofs.YteefodibpjgicaaGreat
namespace M7
open M3 (isText withText cat push mayE oneE okP apart)
/-- All that are open are elements. -/
def elD : Nat → List Nd → Prop
  | 0, _ => True
  | d + 1, L => match L.getLast? with | some x => x.kind = 1 ∧ elD d x.kids | none => False
theorem elD_snoc (d : Nat) (A : List Nd) (x : Nd) : elD (d + 1) (A ++ [x]) = (x.kind = 1 ∧ elD d x.kids) := by rw [elD]; simp
theorem elD_ok {d : Nat} : ∀ {L : List Nd}, elD d L → okD d L := by
  induction d with
  | zero => intro L _; trivial
  | succ d ih =>
    intro L h
    rcases List.eq_nil_or_concat L with rfl | ⟨A, x, rfl⟩
    · exact h.elim
    · rw [List.concat_eq_append, elD_snoc] at h
      rw [List.concat_eq_append, okD_snoc]
      exact ih h.2
theorem elD_pre {n d : Nat} : ∀ {L : List Nd}, elD d L → n ≤ d → elD n L := by
  induction n generalizing d with
  | zero => intro L _ _; trivial
  | succ n ih =>
    intro L h hn
    obtain ⟨d, rfl⟩ : ∃ e, d = e + 1 := ⟨d - 1, by omega⟩
    rcases List.eq_nil_or_concat L with rfl | ⟨A, x, rfl⟩
    · exact h.elim
    · rw [List.concat_eq_append, elD_snoc] at *
      exact ⟨h.1, ih h.2 (by omega)⟩
theorem elD_put {d : Nat} (n : Nd) : ∀ {L : List Nd}, elD d L → elD d (putN d n L) := by
  induction d with
  | zero => intro L _; trivial
  | succ d ih =>
    intro L h
    rcases List.eq_nil_or_concat L with rfl | ⟨A, x, rfl⟩
    · exact h.elim
    · rw [List.concat_eq_append] at *
      rw [elD_snoc] at h
      rw [putN_snoc, elD_snoc]
      exact ⟨h.1, ih h.2⟩
theorem elD_open {d : Nat} {n : Nd} (hn : n.kind = 1) : ∀ {L : List Nd}, elD d L → elD (d + 1) (putN d n L) := by
  induction d with
  | zero =>
    intro L _
    show elD 1 (push L n)
    rw [push_node n (by simp [isText, hn]), elD_snoc]
    exact ⟨hn, trivial⟩
  | succ d ih =>
    intro L h
    rcases List.eq_nil_or_concat L with rfl | ⟨A, x, rfl⟩
    · exact h.elim
    · rw [List.concat_eq_append] at *
      rw [elD_snoc] at h
      rw [putN_snoc, elD_snoc]
      exact ⟨h.1, ih h.2⟩

/-- Kids of a parent, as they may stand there. -/
def GK (p : ByteArray) (L : List Nd) : Prop := mayE false L = 0 ∧ M6.allB L = true ∧ L.all (M6.fitsB p) = true
theorem may_app (A : List Nd) : ∀ (p : Bool) (B : List Nd), mayE p (A ++ B) = 0 ↔ mayE p A = 0 ∧ mayE (lastT p A) B = 0 := by
  induction A with
  | nil => intro p B; rw [List.nil_append, M3.mayE_nil]; simp [lastT]
  | cons x r ih =>
    intro p B
    rw [List.cons_append, lastT_cons]
    constructor
    · intro h
      obtain ⟨h1, h2, h3⟩ := may_cons h
      obtain ⟨h4, h5⟩ := (ih _ _).1 h3
      refine ⟨?_, h5⟩
      rw [M3.mayE_cons, h1, h2, h4]; simp
    · rintro ⟨h, h5⟩
      obtain ⟨h1, h2, h3⟩ := may_cons h
      have h4 := (ih _ _).2 ⟨h3, h5⟩
      rw [M3.mayE_cons, h1, h2, h4]; simp
theorem may_one {p : Bool} {x : Nd} : mayE p [x] = 0 ↔ oneE x p = 0 ∧ mayE false x.kids = 0 := by
  constructor
  · intro h
    obtain ⟨h1, h2, -⟩ := may_cons h
    exact ⟨h1, h2⟩
  · rintro ⟨h1, h2⟩
    rw [M3.mayE_cons, h1, h2, M3.mayE_nil]; simp
theorem allB_app (A B : List Nd) : M6.allB (A ++ B) = true ↔ M6.allB A = true ∧ M6.allB B = true := by
  rw [M6.allB_iff, M6.allB_iff, M6.allB_iff]
  constructor
  · intro h
    exact ⟨fun x hx => h x (by simp [hx]), fun x hx => h x (by simp [hx])⟩
  · rintro ⟨h1, h2⟩ x hx
    rcases List.mem_append.1 hx with hx | hx
    · exact h1 x hx
    · exact h2 x hx
theorem GK_snoc {p : ByteArray} {A : List Nd} {x : Nd} : GK p (A ++ [x]) ↔ GK p A ∧ oneE x (lastT false A) = 0 ∧ M6.remB x = false ∧ M6.fitsB p x = true ∧ GK x.name x.kids := by
  unfold GK
  rw [may_app, may_one, allB_app, List.all_append, Bool.and_eq_true]
  have h1 : M6.allB [x] = true ↔ M6.remB x = false ∧ x.kids.all (M6.fitsB x.name) = true ∧ M6.allB x.kids = true := by
    rw [M6.allB_iff]
    simp [M6.oneS]
  rw [h1]
  simp only [List.all_cons, List.all_nil, Bool.and_true]
  constructor
  · rintro ⟨⟨a, b, c⟩, ⟨d, e, f, g⟩, h, i⟩; exact ⟨⟨a, d, h⟩, b, e, i, c, g, f⟩
  · rintro ⟨⟨a, d, h⟩, b, e, i, c, g, f⟩; exact ⟨⟨a, b, c⟩, ⟨d, e, f, g⟩, h, i⟩
theorem GK_nil (p : ByteArray) : GK p [] := ⟨M3.mayE_nil _, M6.allB_nil, rfl⟩
theorem one_wk {x : Nd} (ks : List Nd) (q : Bool) (h : x.kind = 1) : oneE (wk x ks) q = oneE x q := by
  unfold oneE
  rw [if_pos h, if_pos (show (wk x ks).kind = 1 from h)]
  rfl
theorem put_GK {d : Nat} (n : Nd) : ∀ {L : List Nd} {p : ByteArray}, elD d L → GK p L → GK (lastN p (openN d L)) (push (levelN d L) n) → GK p (putN d n L) := by
  induction d with
  | zero => intro L p _ _ h; exact h
  | succ d ih =>
    intro L p he hg hp
    rcases List.eq_nil_or_concat L with rfl | ⟨A, x, rfl⟩
    · exact he.elim
    · rw [List.concat_eq_append] at *
      rw [elD_snoc] at he
      rw [openN_snoc, lastN_cons, levelN_snoc] at hp
      rw [putN_snoc]
      obtain ⟨a, b, c, e, f⟩ := GK_snoc.1 hg
      refine GK_snoc.2 ⟨a, ?_, c, e, ih he.2 f hp⟩
      rw [one_wk _ _ he.1]
      exact b
/-- One node more. -/
theorem push_GK {q : ByteArray} {K : List Nd} {n : Nd} (h : GK q K) (hk : n.kids = []) (hr : M6.remB n = false)
    (hn : (n.kind ≠ 2 ∧ oneE n false = 0 ∧ M6.fitsB q n = true) ∨ (n.kind = 2 ∧ n = .mk 2 ⟨#[]⟩ [] n.text [] ∧ M1.isB n.text.data.toList = true ∧ M3.nilB n.text = false ∧ M3.voidB q.data.toList = false ∧ (M3.rawB q.data.toList = true → K = [] ∧ M6.endsHere q.data.toList n.text.data.toList = true))) : GK q (push K n) := by
  rcases hn with ⟨h2, h1, hf⟩ | ⟨h2, hx, hb, hne, hv, hraw⟩
  · rw [push_node n (by simpa [isText] using h2)]
    refine GK_snoc.2 ⟨h, ?_, hr, hf, by rw [hk]; exact GK_nil _⟩
    rw [← h1]
    unfold oneE
    rw [if_neg h2, if_neg h2]
  · have hbare : M3.bareB n = false := by unfold M3.bareB; rw [hne, Bool.and_false]
    have hfit : ∀ m : Nd, m.kind = 2 → (M3.rawB q.data.toList = true → m = n) → M6.fitsB q m = true := fun m hm hmn => by
      unfold M6.fitsB
      rw [hv, if_neg Bool.false_ne_true]
      split
      · rename_i hq
        rw [hmn hq, (hraw hq).2]
        simp [isText, h2]
      · simp [hm]
    have hone : ∀ (tx : ByteArray), M1.isB tx.data.toList = true → M3.nilB tx = false → oneE (.mk 2 ⟨#[]⟩ [] tx []) false = 0 := fun tx h1 h3 => by
      unfold oneE
      rw [if_neg (show ¬ (Nd.mk 2 ⟨#[]⟩ [] tx []).kind = 1 by show ¬ (2 : Int) = 1; decide), if_pos (show (Nd.mk 2 ⟨#[]⟩ [] tx []).kind = 2 from rfl)]
      have : M3.plainB (.mk 2 ⟨#[]⟩ [] tx []) = true := by unfold M3.plainB; rw [show (Nd.mk 2 ⟨#[]⟩ [] tx []).name = ⟨#[]⟩ from rfl, M3.nilB_empty]; rfl
      rw [this, if_pos rfl]
      show (if (M1.isB tx.data.toList && !(M3.nilB tx || false)) = true then (0 : Int) else 2) = 0
      rw [h1, h3]; rfl
    rcases List.eq_nil_or_concat K with rfl | ⟨A, y, rfl⟩
    · rw [M3.push_none hbare]
      have : ([n] : List Nd) = [] ++ [n] := rfl
      rw [this]
      refine GK_snoc.2 ⟨GK_nil _, ?_, hr, hfit n h2 (fun _ => rfl), by rw [hk]; exact GK_nil _⟩
      rw [hx]
      exact hone _ hb hne
    · rw [List.concat_eq_append] at *
      have hnr : M3.rawB q.data.toList = false := by
        cases hq : M3.rawB q.data.toList
        · rfl
        · have := (hraw hq).1; simp at this
      obtain ⟨a, b, c, e, f⟩ := GK_snoc.1 h
      rw [M3.push_snoc hbare]
      split
      · rename_i ht
        simp only [Bool.and_eq_true] at ht
        have hy2 : y.kind = 2 := by simpa [isText] using ht.2
        rcases one_kinds b with h | h | h
        · omega
        · obtain ⟨-, hy, yb, yn, yp⟩ := h
          have hcb : M1.isB (cat y.text n.text).data.toList = true := by
            have := M3.okP_cat y n (by unfold okP; rw [ht.2, if_pos rfl, hy]; exact ⟨by unfold M3.plainB; rw [show (Nd.mk 2 ⟨#[]⟩ [] y.text []).name = ⟨#[]⟩ from rfl, M3.nilB_empty]; rfl, yb⟩) (by unfold okP; rw [ht.1, if_pos rfl, hx]; exact ⟨by unfold M3.plainB; rw [show (Nd.mk 2 ⟨#[]⟩ [] n.text []).name = ⟨#[]⟩ from rfl, M3.nilB_empty]; rfl, hb⟩) ht.2 ht.1
            unfold okP at this
            have ht3 : isText (withText y (cat y.text n.text)) = true := ht.2
            rw [ht3, if_pos rfl] at this
            exact this.2
          have hcn : M3.nilB (cat y.text n.text) = false := by rw [M3.nilB_cat, hne, Bool.and_false]
          refine GK_snoc.2 ⟨a, ?_, ?_, hfit _ hy2 (fun hq => absurd hq (by rw [hnr]; decide)), ?_⟩
          · rw [yp, hy]
            exact hone _ hcb hcn
          · rw [hy]; unfold M6.remB; rfl
          · rw [hy]; exact GK_nil _
        · omega
      · rename_i ht
        have hyt : isText y = false := by
          cases hq : isText y
          · rfl
          · simp [isText, h2] at ht hq; exact absurd hq ht
        refine GK_snoc.2 ⟨h, ?_, hr, hfit n h2 (fun hq => absurd hq (by rw [hnr]; decide)), by rw [hk]; exact GK_nil _⟩
        rw [lastT_snoc, show (y.kind == 2) = false from hyt, hx]
        exact hone _ hb hne
theorem level_GK {d : Nat} : ∀ {L : List Nd} {p : ByteArray}, elD d L → GK p L → GK (lastN p (openN d L)) (levelN d L) := by
  induction d with
  | zero => intro L p _ h; exact h
  | succ d ih =>
    intro L p he hg
    rcases List.eq_nil_or_concat L with rfl | ⟨A, x, rfl⟩
    · exact he.elim
    · rw [List.concat_eq_append] at *
      rw [elD_snoc] at he
      rw [openN_snoc, lastN_cons, levelN_snoc]
      exact ih he.2 (GK_snoc.1 hg).2.2.2.2
theorem level_open {d : Nat} {e : Nd} (he : isText e = false) : ∀ {L : List Nd}, okD d L → levelN (d + 1) (putN d e L) = e.kids := by
  induction d with
  | zero =>
    intro L _
    show levelN 1 (push L e) = _
    rw [push_node e he, levelN_snoc]; rfl
  | succ d ih =>
    intro L h
    rcases List.eq_nil_or_concat L with rfl | ⟨A, x, rfl⟩
    · exact h.elim
    · rw [List.concat_eq_append] at *
      rw [okD_snoc] at h
      rw [putN_snoc, levelN_snoc]
      exact ih h
/-- Below an open element that has an open one in it nothing is raw. -/
theorem inner_raw {d n : Nat} {L : List Nd} (he : elD d L) (hg : GK ⟨#[]⟩ L) (hn : n < d) : M3.rawB (lastN ⟨#[]⟩ (openN n L)).data.toList = false := by
  have h1 := level_GK (elD_pre he (Nat.le_of_lt hn)) hg
  have hx : ∃ A x, levelN n L = A ++ [x] ∧ x.kind = 1 := by
    clear hg h1
    induction n generalizing d L with
    | zero =>
      obtain ⟨d, rfl⟩ : ∃ e, d = e + 1 := ⟨d - 1, by omega⟩
      rcases List.eq_nil_or_concat L with rfl | ⟨A, x, rfl⟩
      · exact he.elim
      · rw [List.concat_eq_append, elD_snoc] at he
        exact ⟨A, x, by simp [levelN], he.1⟩
    | succ n ih =>
      obtain ⟨d, rfl⟩ : ∃ e, d = e + 1 := ⟨d - 1, by omega⟩
      rcases List.eq_nil_or_concat L with rfl | ⟨A, x, rfl⟩
      · exact he.elim
      · rw [List.concat_eq_append, elD_snoc] at he
        obtain ⟨B, y, h1, h2⟩ := ih he.2 (by omega)
        exact ⟨B, y, by rw [List.concat_eq_append, levelN_snoc]; exact h1, h2⟩
  obtain ⟨A, x, e, hk⟩ := hx
  rw [e] at h1
  have hf := (GK_snoc.1 h1).2.2.2.1
  cases hq : M3.rawB (lastN ⟨#[]⟩ (openN n L)).data.toList
  · rfl
  · unfold M6.fitsB at hf
    rw [hq] at hf
    split at hf
    · cases hf
    · simp [isText, hk] at hf
theorem names_zero (l : List Att) : ∀ seen : List ByteArray, (∀ a ∈ l, M3.attributedB a.name.data.toList = true) → l.Pairwise (fun a b => a.name ≠ b.name) → (∀ a ∈ l, ∀ s ∈ seen, s ≠ a.name) → M3.namesE seen l = 0 := by
  induction l with
  | nil => intro seen _ _ _; rfl
  | cons a r ih =>
    intro seen h1 h2 h3
    obtain ⟨p1, p2⟩ := List.pairwise_cons.1 h2
    rw [M3.namesE, h1 a (by simp), if_pos rfl, if_neg, ih _ (fun b hb => h1 b (by simp [hb])) p2 (fun b hb s hs => ?_)]
    · rcases List.mem_append.1 hs with hs | hs
      · exact h3 b (by simp [hb]) s hs
      · rw [List.mem_singleton.1 hs]; exact p1 b hb
    · intro e
      obtain ⟨s, hs, he⟩ := List.any_eq_true.1 e
      exact h3 a (by simp) s hs (M3.eqB_iff.1 he).symm
theorem values_zero (l : List Att) (h : ∀ a ∈ l, M1.isB a.value.data.toList = true) : M3.valuesE l = 0 := by
  induction l with
  | nil => rfl
  | cons a r ih => rw [M3.valuesE, h a (by simp), if_pos rfl, ih (fun b hb => h b (by simp [hb]))]
theorem last_void {o : List ByteArray} (h : ∀ nm ∈ o, M3.voidB nm.data.toList = false) : M3.voidB (lastN ⟨#[]⟩ o).data.toList = false := by
  unfold lastN
  cases ho : o.getLast? with
  | none => rfl
  | some x => exact h x (List.mem_of_getLast? ho)

/-- A builder within a right text's tokens. -/
def Inv8 (s : St) (rest : List Tok) : Prop :=
  elD s.d s.L ∧ GK ⟨#[]⟩ s.L ∧ (∀ nm ∈ openN s.d s.L, M3.voidB nm.data.toList = false) ∧
    (M3.rawB (lastN ⟨#[]⟩ (openN s.d s.L)).data.toList = true → (levelN s.d s.L = [] ∧ M5.RawTail (lastN ⟨#[]⟩ (openN s.d s.L)) rest) ∨ (rest = [] ∨ ∃ r, rest = ⟨2, lastN ⟨#[]⟩ (openN s.d s.L), [], ⟨#[]⟩⟩ :: r))
/-- Within a raw element: its text, or its end. -/
theorem Inv8.raw {s : St} {t : Tok} {r : List Tok} (h : Inv8 s (t :: r)) (hr : M3.rawB (lastN ⟨#[]⟩ (openN s.d s.L)).data.toList = true) :
    (t.kind = 2 ∧ t.name = lastN ⟨#[]⟩ (openN s.d s.L)) ∨ (t.kind = 3 ∧ levelN s.d s.L = [] ∧ M6.endsHere (lastN ⟨#[]⟩ (openN s.d s.L)).data.toList t.text.data.toList = true ∧ (r = [] ∨ ∃ r', r = ⟨2, lastN ⟨#[]⟩ (openN s.d s.L), [], ⟨#[]⟩⟩ :: r')) := by
  rcases h.2.2.2 hr with ⟨h1, (h2 | ⟨r', h2⟩) | ⟨c, r', h2, h3, h4⟩⟩ | h2 | ⟨r', h2⟩
  · cases h2
  · injection h2 with e1 e2; subst e1; exact .inl ⟨rfl, rfl⟩
  · injection h2 with e1 e2; subst e1 e2; exact .inr ⟨rfl, h1, h3, h4⟩
  · cases h2
  · injection h2 with e1 e2; subst e1; exact .inl ⟨rfl, rfl⟩
theorem step_inv {s : St} {t : Tok} {r : List Tok} (hok : M5.OkL (t :: r)) (h : Inv8 s (t :: r)) : Inv8 (step s t) r := by
  obtain ⟨ht, hraw, -⟩ := hok
  have hR := h.raw
  obtain ⟨he, hg, hv, hq⟩ := h
  have hokd := elD_ok he
  have hol := openN_len hokd
  have nraw : t.kind ≠ 2 → t.kind ≠ 3 → M3.rawB (lastN ⟨#[]⟩ (openN s.d s.L)).data.toList = false := fun h2 h3 => by
    cases hr : M3.rawB (lastN ⟨#[]⟩ (openN s.d s.L)).data.toList
    · rfl
    · rcases hR hr with h | h
      · exact absurd h.1 h2
      · exact absurd h.1 h3
  rcases ht with ⟨hk, hnm, hat, hval⟩ | hk | ⟨hk, hb, hne⟩ | ⟨hk, hb, hrem⟩
  · have hnr := nraw (by omega) (by omega)
    unfold step
    rw [if_pos hk]
    have hn := closeAt_le (openN s.d s.L) t.name s.d
    have hst := closeAt_stop (openN s.d s.L) t.name s.d
    show Inv8 ⟨putN (closeAt (openN s.d s.L) t.name s.d) (elT t) s.L, if _ then closeAt (openN s.d s.L) t.name s.d else closeAt (openN s.d s.L) t.name s.d + 1⟩ r
    generalize closeAt (openN s.d s.L) t.name s.d = n at *
    have k1 := elD_pre he hn
    have k0 := elD_ok k1
    have kt := openN_take hokd hn
    have k3 : ∀ nm ∈ openN n s.L, M3.voidB nm.data.toList = false := fun nm hm => hv nm (by rw [kt] at hm; exact List.mem_of_mem_take hm)
    have hqv := last_void k3
    have hqr : M3.rawB (lastN ⟨#[]⟩ (openN n s.L)).data.toList = false := by
      rcases Nat.lt_or_ge n s.d with h | h
      · exact inner_raw he hg h
      · obtain rfl : n = s.d := by omega
        exact hnr
    have hqc : M6.closesB (lastN ⟨#[]⟩ (openN n s.L)).data.toList t.name.data.toList = false := by
      rw [kt, lastN_take (by rw [hol]; exact hn)]
      split
      · exact closed_none _
      · rename_i h0
        rcases hst with h | h
        · exact absurd h h0
        · exact h
    have h1 : oneE (elT t) false = 0 := by
      unfold oneE
      rw [if_pos (show (elT t).kind = 1 from rfl)]
      unfold M3.elemE
      have e1 : M3.nilB (elT t).text = true := M3.nilB_empty
      have e2 : M3.namesE [] (elT t).attrs = 0 := names_zero t.attrs [] hat.1 hat.2 (fun _ _ s hs => (nomatch hs))
      have e3 : M3.namedB (elT t).name.data.toList = true := hnm
      rw [e1, e2, e3, if_pos rfl, if_pos rfl, if_pos rfl]
      exact values_zero t.attrs hval
    have hf : M6.fitsB (lastN ⟨#[]⟩ (openN n s.L)) (elT t) = true := by
      unfold M6.fitsB
      rw [hqv, hqr, if_neg Bool.false_ne_true, if_neg Bool.false_ne_true]
      show (!(decide ((1 : Int) = 1) && M6.closesB _ t.name.data.toList)) = true
      rw [hqc]; rfl
    have hpg : GK ⟨#[]⟩ (putN n (elT t) s.L) := put_GK (elT t) k1 hg (push_GK (level_GK k1 hg) rfl rfl (.inl ⟨by show ¬ (1 : Int) = 2; decide, h1, hf⟩))
    cases hvo : M3.voidB t.name.data.toList
    · rw [if_neg Bool.false_ne_true]
      have ho := (put_open (elT t) k0 rfl).2.1
      have hln : lastN ⟨#[]⟩ (openN (n + 1) (putN n (elT t) s.L)) = t.name := by
        rw [ho]; unfold lastN; simp; rfl
      refine ⟨elD_open rfl k1, hpg, fun nm hm => ?_, fun hr => ?_⟩
      · change nm ∈ openN (n + 1) (putN n (elT t) s.L) at hm
        rw [ho] at hm
        rcases List.mem_append.1 hm with hm | hm
        · exact k3 nm hm
        · rw [List.mem_singleton.1 hm]; exact hvo
      · change M3.rawB (lastN ⟨#[]⟩ (openN (n + 1) (putN n (elT t) s.L))).data.toList = true at hr
        show (levelN (n + 1) (putN n (elT t) s.L) = [] ∧ M5.RawTail (lastN ⟨#[]⟩ (openN (n + 1) (putN n (elT t) s.L))) r) ∨ _
        rw [hln] at hr ⊢
        exact .inl ⟨level_open rfl k0, hraw hk hr⟩
    · rw [if_pos rfl]
      have ho := (put_keeps (elT t) k0).2.1
      refine ⟨elD_put _ k1, hpg, fun nm hm => ?_, fun hr => ?_⟩
      · change nm ∈ openN n (putN n (elT t) s.L) at hm
        rw [ho] at hm
        exact k3 nm hm
      · change M3.rawB (lastN ⟨#[]⟩ (openN n (putN n (elT t) s.L))).data.toList = true at hr
        rw [ho, hqr] at hr
        cases hr
  · unfold step
    rw [if_neg (by omega), if_pos hk]
    cases hE : endAt (openN s.d s.L) t.name s.d with
    | none =>
      refine ⟨he, hg, hv, fun hr => ?_⟩
      exfalso
      have hr : M3.rawB (lastN ⟨#[]⟩ (openN s.d s.L)).data.toList = true := hr
      rcases hR hr with h | h
      · cases hd : s.d with
        | zero =>
          rw [hd] at hr
          have : lastN ⟨#[]⟩ (openN 0 s.L) = ⟨#[]⟩ := rfl
          rw [this] at hr
          exact absurd hr (by decide)
        | succ d =>
          rw [hd] at hE
          rw [endAt] at hE
          have hlast : lastN ⟨#[]⟩ (openN s.d s.L) = (openN s.d s.L).getD d ⟨#[]⟩ := by
            have := lastN_take (o := openN s.d s.L) (n := d + 1) (by omega)
            rw [List.take_of_length_le (by omega), if_neg (by omega)] at this
            exact this
          rw [hd] at hlast h
          rw [← hlast, if_pos (by rw [h.2])] at hE
          cases hE
      · omega
    | some i =>
      have hi := endAt_lt _ _ _ _ hE
      refine ⟨elD_pre he (Nat.le_of_lt hi), hg, fun nm hm => ?_, fun hr => ?_⟩
      · change nm ∈ openN i s.L at hm
        rw [openN_take hokd (Nat.le_of_lt hi)] at hm
        exact hv nm (List.mem_of_mem_take hm)
      · change M3.rawB (lastN ⟨#[]⟩ (openN i s.L)).data.toList = true at hr
        rw [inner_raw he hg hi] at hr
        cases hr
  · unfold step
    rw [if_neg (by omega), if_neg (by omega), if_pos hk]
    have ho := (put_keeps (txT t) hokd).2.1
    have hnn : M3.nilB t.text = false := by
      rw [M3.nilB_data']
      cases hq : t.text.data.toList with
      | nil => exact absurd hq hne
      | cons a b => rfl
    refine ⟨elD_put _ he, put_GK (txT t) he hg (push_GK (level_GK he hg) rfl rfl (.inr ⟨rfl, rfl, hb, hnn, last_void hv, fun hr => ?_⟩)), fun nm hm => ?_, fun hr => ?_⟩
    · rcases hR hr with h | h
      · omega
      · exact ⟨h.2.1, h.2.2.1⟩
    · change nm ∈ openN s.d (putN s.d (txT t) s.L) at hm
      rw [ho] at hm
      exact hv nm hm
    · change M3.rawB (lastN ⟨#[]⟩ (openN s.d (putN s.d (txT t) s.L))).data.toList = true at hr
      show _ ∨ (r = [] ∨ ∃ r', r = ⟨2, lastN ⟨#[]⟩ (openN s.d (putN s.d (txT t) s.L)), [], ⟨#[]⟩⟩ :: r')
      rw [ho] at hr ⊢
      rcases hR hr with h | h
      · omega
      · exact .inr h.2.2.2
  · have hnr := nraw (by omega) (by omega)
    unfold step
    rw [if_neg (by omega), if_neg (by omega), if_neg (by omega), if_pos hk]
    have ho := (put_keeps (coT t) hokd).2.1
    have hrb : M6.remB (coT t) = false := by
      unfold M6.remB M6.hasB
      show (decide ((3 : Int) = 3) && decide (M5.findL [45, 45, 62] t.text.data.toList < t.text.data.toList.length)) = false
      rw [hrem, decide_eq_false (Nat.lt_irrefl _)]; rfl
    have h1 : oneE (coT t) false = 0 := by
      unfold oneE
      rw [if_neg (show ¬ (coT t).kind = 1 by show ¬ (3 : Int) = 1; decide), if_neg (show ¬ (coT t).kind = 2 by show ¬ (3 : Int) = 2; decide), if_pos (show (coT t).kind = 3 from rfl)]
      have : M3.plainB (coT t) = true := by unfold M3.plainB; rw [show (coT t).name = ⟨#[]⟩ from rfl, M3.nilB_empty]; rfl
      rw [this, if_pos rfl]
      show (if M1.isB t.text.data.toList = true then (0 : Int) else 2) = 0
      rw [if_pos (show M1.isB t.text.data.toList = true from hb)]
    have hf : M6.fitsB (lastN ⟨#[]⟩ (openN s.d s.L)) (coT t) = true := by
      unfold M6.fitsB
      rw [last_void hv, hnr, if_neg Bool.false_ne_true, if_neg Bool.false_ne_true]
      rfl
    refine ⟨elD_put _ he, put_GK (coT t) he hg (push_GK (level_GK he hg) rfl hrb (.inl ⟨by show ¬ (3 : Int) = 2; decide, h1, hf⟩)), fun nm hm => ?_, fun hr => ?_⟩
    · change nm ∈ openN s.d (putN s.d (coT t) s.L) at hm
      rw [ho] at hm
      exact hv nm hm
    · change M3.rawB (lastN ⟨#[]⟩ (openN s.d (putN s.d (coT t) s.L))).data.toList = true at hr
      rw [ho, hnr] at hr
      cases hr
theorem run_inv (l : List Tok) : ∀ s, M5.OkL l → Inv8 s l → Inv8 (l.foldl step s) [] := by
  induction l with
  | nil => intro s _ h; exact h
  | cons t r ih => intro s hok h; exact ih _ hok.2.2 (step_inv hok h)
/-- What a right text is parsed as is stable. -/
theorem parsed_stable {l : List UInt8} (h : M1.isB l = true) : M6.stableB (tree (M5.tokens l)) = true := by
  have hok := M5.toks_ok l.length l (Nat.le_refl _) h
  have hi := run_inv (M5.tokens l) ⟨[], 0⟩ hok ⟨trivial, GK_nil _, fun nm hm => (nomatch hm), fun hr => absurd hr (by decide)⟩
  obtain ⟨-, h1, -⟩ := hi
  unfold M6.stableB
  rw [Bool.and_eq_true]
  exact ⟨decide_eq_true h1.1, h1.2.1⟩
end M7
end Go.Proofs.YteefodibpjgicaaGreat

/- Layer 8: how many bytes tokens and nodes hold. No program in it. -/
namespace Go.Proofs.YteefodibpjgicaaGreat
open M3 (push withText cat isText)
def szA (l : List Att) : Nat := (l.map fun a => 1 + a.name.size + a.value.size).sum
theorem szA_cons (a : Att) (r : List Att) : szA (a :: r) = 1 + a.name.size + a.value.size + szA r := by unfold szA; rw [List.map_cons, List.sum_cons]
theorem szA_snoc (l : List Att) (a : Att) : szA (l ++ [a]) = szA l + (1 + a.name.size + a.value.size) := by unfold szA; rw [List.map_append, List.sum_append]; simp
def sz : List Nd → Nat
  | [] => 0
  | .mk _ n a t ks :: r => 1 + n.size + szA a + t.size + sz ks + sz r
termination_by l => SizeOf.sizeOf l
def sz1 (x : Nd) : Nat := 1 + x.name.size + szA x.attrs + x.text.size + sz x.kids
theorem sz_nil : sz [] = 0 := by rw [sz]
theorem sz_cons (x : Nd) (r : List Nd) : sz (x :: r) = sz1 x + sz r := by cases x; rw [sz]; rfl
theorem sz_app (a b : List Nd) : sz (a ++ b) = sz a + sz b := by
  induction a with
  | nil => rw [List.nil_append, sz_nil, Nat.zero_add]
  | cons x r ih => rw [List.cons_append, sz_cons, sz_cons, ih]; omega
theorem sz_one (x : Nd) : sz [x] = sz1 x := by rw [sz_cons, sz_nil]; rfl
def tokB (t : Tok) : Nat := 1 + t.name.size + szA t.attrs + t.text.size
def bsum (l : List Tok) : Nat := (l.map tokB).sum

namespace M7
theorem sz_push (L : List Nd) (n : Nd) : sz (push L n) ≤ sz L + sz1 n := by
  cases hb : M3.bareB n
  · rcases List.eq_nil_or_concat L with rfl | ⟨A, y, rfl⟩
    · rw [M3.push_none hb, sz_one, sz_nil]; omega
    · rw [List.concat_eq_append, M3.push_snoc hb]
      split
      · rw [sz_app, sz_app, sz_one, sz_one]
        have h1 : (cat y.text n.text).size = y.text.size + n.text.size := by
          show ((y.text.data.toList ++ n.text.data.toList).toArray).size = _
          rw [List.size_toArray, List.length_append]
          rfl
        have h2 : sz1 (withText y (cat y.text n.text)) = 1 + y.name.size + szA y.attrs + (cat y.text n.text).size + sz y.kids := rfl
        rw [h2, h1]
        unfold sz1
        omega
      · rw [sz_app (A ++ [y]), sz_one]; omega
  · rw [M3.push_bare hb]; omega
theorem sz_put {d : Nat} (n : Nd) : ∀ {L : List Nd}, okD d L → sz (putN d n L) ≤ sz L + sz1 n := by
  induction d with
  | zero => intro L _; exact sz_push L n
  | succ d ih =>
    intro L h
    rcases List.eq_nil_or_concat L with rfl | ⟨A, x, rfl⟩
    · exact h.elim
    · rw [List.concat_eq_append] at *
      rw [okD_snoc] at h
      rw [putN_snoc, sz_app, sz_app, sz_one, sz_one]
      have := ih h
      have h2 : sz1 (wk x (putN d n x.kids)) = 1 + x.name.size + szA x.attrs + x.text.size + sz (putN d n x.kids) := rfl
      rw [h2]
      unfold sz1 at *
      omega
theorem sz_step {s : St} (t : Tok) (h : s.ok) : sz (step s t).L ≤ sz s.L + tokB t := by
  have e1 : sz1 (elT t) ≤ tokB t := by
    show 1 + t.name.size + szA t.attrs + 0 + sz [] ≤ _
    rw [sz_nil]; unfold tokB; omega
  have e2 : sz1 (txT t) ≤ tokB t := by
    show 1 + 0 + 0 + t.text.size + sz [] ≤ _
    rw [sz_nil]; unfold tokB; omega
  have e3 : sz1 (coT t) ≤ tokB t := by
    show 1 + 0 + 0 + t.text.size + sz [] ≤ _
    rw [sz_nil]; unfold tokB; omega
  unfold step
  split
  · have hn := closeAt_le (openN s.d s.L) t.name s.d
    have := sz_put (elT t) (okD_pre h hn)
    show sz (putN _ _ _) ≤ _
    omega
  split
  · split <;> (show sz s.L ≤ _; omega)
  split
  · have := sz_put (txT t) h
    show sz (putN _ _ _) ≤ _
    omega
  split
  · have := sz_put (coT t) h
    show sz (putN _ _ _) ≤ _
    omega
  · omega
theorem sz_run (l : List Tok) : sz (tree l) ≤ bsum l := by
  have key : ∀ (l : List Tok) (s : St), s.ok → sz (l.foldl step s).L ≤ sz s.L + bsum l := by
    intro l
    induction l with
    | nil => intro s _; show sz s.L ≤ sz s.L + 0; omega
    | cons t r ih =>
      intro s h
      have h1 := ih _ (step_ok t h)
      have h2 := sz_step t h
      have h3 : bsum (t :: r) = tokB t + bsum r := by unfold bsum; rw [List.map_cons, List.sum_cons]
      rw [List.foldl_cons]
      omega
  have := key l ⟨[], 0⟩ trivial
  have e : sz (⟨[], 0⟩ : St).L = 0 := sz_nil
  rw [e] at this
  unfold tree run
  omega
end M7
namespace M5
theorem val_len (l : List UInt8) : (valC l).1.length + (valC l).2.length ≤ l.length := by
  unfold valC
  cases l with
  | nil => exact Nat.le_refl _
  | cons q t =>
    show (if q = 34 ∨ q = 39 then quoted q t else _ : List UInt8 × List UInt8).1.length + (if q = 34 ∨ q = 39 then quoted q t else _ : List UInt8 × List UInt8).2.length ≤ _
    split
    · have := congrArg List.length (List.takeWhile_append_dropWhile (p := (· != q)) (l := t))
      rw [List.length_append] at this
      unfold quoted
      show (t.takeWhile _).length + ((t.dropWhile _).drop 1).length ≤ _
      rw [List.length_drop, List.length_cons]
      omega
    · have := congrArg List.length (List.takeWhile_append_dropWhile (p := bareB) (l := q :: t))
      rw [List.length_append] at this
      show ((q :: t).takeWhile bareB).length + ((q :: t).dropWhile bareB).length ≤ _
      omega
theorem att_B (c : UInt8) (r : List UInt8) (ho : overB c = false) (h62 : c ≠ 62) : 1 + (attC (c :: r)).1.name.size + (attC (c :: r)).1.value.size + 5 * (attC (c :: r)).2.length ≤ 5 * (c :: r).length := by
  have hk := over_gt ho h62
  have hs := congrArg List.length (List.takeWhile_append_dropWhile (p := keyB) (l := c :: r))
  rw [List.length_append] at hs
  have h1 : 1 ≤ ((c :: r).takeWhile keyB).length := by rw [List.takeWhile_cons, hk, if_pos rfl]; simp
  have hd := (List.dropWhile_suffix (l := (c :: r).dropWhile keyB) blankB).length_le
  have hn : (attC (c :: r)).1.name.size = ((c :: r).takeWhile keyB).length := by rw [attC_name, bs_sz, fold_len]
  rw [hn]
  by_cases hx : ∃ z, ((c :: r).dropWhile keyB).dropWhile blankB = 61 :: z
  · obtain ⟨z, hx⟩ := hx
    rw [attC_61 _ z hx]
    rw [hx, List.length_cons] at hd
    have h2 := (List.dropWhile_suffix (l := z) blankB).length_le
    have h3 := val_len (z.dropWhile blankB)
    have h4 := M2.decode_len (valC (z.dropWhile blankB)).1.length (valC (z.dropWhile blankB)).1 (Nat.le_refl _)
    show 1 + _ + (bs _).size + 5 * (valC (z.dropWhile blankB)).2.length ≤ _
    rw [bs_sz]
    omega
  · rw [attC_ne _ (fun z e => hx ⟨z, e⟩)]
    show 1 + _ + 0 + 5 * (((c :: r).dropWhile keyB).dropWhile blankB).length ≤ _
    omega
theorem addT_sz (acc : List Att) (a : Att) : szA (addT acc a) ≤ szA acc + (1 + a.name.size + a.value.size) := by
  unfold addT
  split
  · omega
  · rw [szA_snoc]; omega
theorem atts_B : ∀ (n : Nat) (l : List UInt8) (acc as_ : List Att) (r : List UInt8), l.length ≤ n → attsR l acc = some (as_, r) → szA as_ + 5 * r.length ≤ szA acc + 5 * l.length := by
  intro n
  induction n with
  | zero =>
    intro l acc as_ r hl h
    obtain rfl : l = [] := List.eq_nil_of_length_eq_zero (by omega)
    rw [attsR_nil] at h; cases h
  | succ n ih =>
    intro l acc as_ r hl h
    rw [atts_over] at h
    have hle := (List.dropWhile_suffix (l := l) overB).length_le
    cases hd : l.dropWhile overB with
    | nil => rw [hd, attsR_nil] at h; cases h
    | cons c t =>
      have hov := over_head l c t hd
      rw [hd] at h hle
      by_cases h62 : c = 62
      · rw [attsR_cons, if_pos h62] at h
        cases h
        simp only [List.length_cons] at hle
        omega
      · rw [atts_one c t acc hov h62] at h
        have hlt := attC_lt c t hov h62
        have h1 := att_B c t hov h62
        have h2 := addT_sz acc (attC (c :: t)).1
        have := ih _ _ _ _ (by simp only [List.length_cons] at hlt hle; omega) h
        omega
theorem tag_B (l : List UInt8) (h : startsB l = true) : tokB (tagR l).1 + 5 * (tagR l).2.length ≤ 5 * l.length := by
  match l with
  | [] => cases h
  | [c] => cases h
  | c :: d :: r =>
    have hlen : (c :: d :: r).length = r.length + 2 := rfl
    rw [tagR, if_pos h]
    show tokB (if letterB d then _ else _ : Tok × List UInt8).1 + 5 * (if letterB d then _ else _ : Tok × List UInt8).2.length ≤ _
    split
    · rw [begin_eq]
      cases ha : attsR (((c :: d :: r).drop 1).dropWhile nameB) [] with
      | none => show 1 + 0 + 0 + 0 + 5 * 0 ≤ _; omega
      | some p =>
        have h1 := atts_B _ _ _ p.1 p.2 (Nat.le_refl _) ha
        have h3 : ((c :: d :: r).drop 1).length = r.length + 1 := rfl
        have h4 := congrArg List.length (List.takeWhile_append_dropWhile (p := nameB) (l := (c :: d :: r).drop 1))
        rw [List.length_append, h3] at h4
        have h0 : szA [] = 0 := rfl
        show 1 + (bs _).size + szA p.1 + 0 + 5 * p.2.length ≤ _
        rw [bs_sz, fold_len]
        omega
    · split
      · have h1 := upto_Q [45, 45, 62] ((c :: d :: r).drop 4)
        rw [List.length_drop] at h1
        show 1 + 0 + 0 + (bs _).size + 5 * (uptoR [45, 45, 62] ((c :: d :: r).drop 4)).2.length ≤ _
        rw [bs_sz]
        omega
      · split
        · show 1 + 0 + 0 + 0 + 5 * ((c :: d :: r).drop 3).length ≤ _
          rw [List.length_drop]; omega
        · split
          · split
            · have h4 := tw_len nameB r
              show 1 + (bs _).size + 0 + 0 + 5 * (r.drop _).length ≤ _
              rw [bs_sz, fold_len, List.length_drop]
              have := findL_le [62] r
              have h5 : (r.takeWhile nameB).length ≤ findL [62] r := by
                rw [findL_span]
                unfold spanN
                have : ∀ l : List UInt8, (l.takeWhile nameB).length ≤ (l.takeWhile (· != 62)).length := by
                  intro l
                  induction l with
                  | nil => exact Nat.le_refl _
                  | cons a t ih =>
                    rw [List.takeWhile_cons, List.takeWhile_cons]
                    split
                    · rename_i hn
                      have : (a != 62) = true := by
                        rw [bne_iff_ne]; rintro rfl; exact absurd hn (by decide)
                      rw [this, if_pos rfl]
                      simp only [List.length_cons]; omega
                    · simp
                exact this r
              omega
            · show 1 + 0 + 0 + 0 + 5 * 0 ≤ _; omega
          · have h1 := upto_Q [62] r
            show 1 + 0 + 0 + (bs _).size + 5 * (uptoR [62] r).2.length ≤ _
            rw [bs_sz]; omega
theorem bsum_app (a b : List Tok) : bsum (a ++ b) = bsum a + bsum b := by unfold bsum; rw [List.map_append, List.sum_append]
theorem bsum_nil : bsum [] = 0 := rfl
theorem bsum_one (t : Tok) : bsum [t] = tokB t := by unfold bsum; simp
theorem chars_B (p : List UInt8) : bsum (charsT p) ≤ 5 * p.length := by
  unfold charsT
  cases p with
  | nil => exact Nat.le_refl _
  | cons c r =>
    have h := M2.decode_len (c :: r).length (c :: r) (Nat.le_refl _)
    rw [if_neg (by simp), bsum_one]
    show 1 + 0 + 0 + (bs _).size ≤ _
    rw [bs_sz]; simp only [List.length_cons] at *; omega
theorem asIs_B (p : List UInt8) : bsum (asIs p) ≤ 5 * p.length := by
  unfold asIs
  cases p with
  | nil => exact Nat.le_refl _
  | cons c r =>
    rw [if_neg (by simp), bsum_one]
    show 1 + 0 + 0 + (bs _).size ≤ _
    rw [bs_sz]; simp only [List.length_cons] at *; omega
theorem raw_B (t : Tok) (l : List UInt8) : bsum (rawT t l).1 + 5 * (rawT t l).2.length ≤ 5 * l.length := by
  unfold rawT
  split
  · have hle := endN_le t.name.data.toList l
    have h := asIs_B (l.take (endN t.name.data.toList l))
    have hl : (l.take (endN t.name.data.toList l)).length = endN t.name.data.toList l := by rw [List.length_take]; omega
    show bsum (asIs _) + 5 * (l.drop _).length ≤ _
    rw [List.length_drop]; omega
  · show bsum [] + 5 * l.length ≤ _
    rw [bsum_nil]; omega
theorem toks_B : ∀ (n : Nat) (l p : List UInt8), l.length ≤ n → bsum (toksR p l) ≤ 5 * (p.length + l.length) := by
  intro n
  induction n with
  | zero =>
    intro l p hl
    obtain rfl : l = [] := List.eq_nil_of_length_eq_zero (by omega)
    rw [toksR_nil]
    exact chars_B p
  | succ n ih =>
    intro l p hl
    cases l with
    | nil => rw [toksR_nil]; exact chars_B p
    | cons c r =>
      cases hs : startsB (c :: r)
      · rw [toksR_text p c r hs]
        have := ih r (p ++ [c]) (by simp at hl; omega)
        rw [List.length_append, List.length_singleton] at this
        rw [List.length_cons, show p.length + (r.length + 1) = p.length + 1 + r.length by omega]
        exact this
      · rw [toksR_tag p _ hs]
        have hlt := tag_lt _ hs
        have t2 := tag_B _ hs
        have hc := chars_B p
        have r1 := raw_B (tagR (c :: r)).1 (tagR (c :: r)).2
        have r2 := (raw_Q (tagR (c :: r)).1 (tagR (c :: r)).2).2.1
        generalize rawT (tagR (c :: r)).1 (tagR (c :: r)).2 = W at *
        generalize tagR (c :: r) = T at *
        generalize c :: r = L at *
        have i1 := ih W.2 [] (by omega)
        rw [List.length_nil, Nat.zero_add] at i1
        have hk : bsum (if T.1.kind ≠ 0 then [T.1] else []) ≤ tokB T.1 := by
          split
          · rw [bsum_one]; exact Nat.le_refl _
          · exact Nat.zero_le _
        rw [bsum_app, bsum_app, bsum_app]
        omega
end M5
/-- A parsed text's nodes hold no more than this. -/
theorem parsed_sz (l : List UInt8) : sz (M7.tree (M5.tokens l)) ≤ 5 * l.length := by
  have h1 := M7.sz_run (M5.tokens l)
  have h2 := M5.toks_B l.length l [] (Nat.le_refl _)
  rw [List.length_nil, Nat.zero_add] at h2
  rw [M5.tokens_eq] at *
  omega
end Go.Proofs.YteefodibpjgicaaGreat

/- Layer 8: nodes that hold few bytes fit everything. No program in it. -/
namespace Go.Proofs.YteefodibpjgicaaGreat
open M5 (TB qs qs_app qs_one)
theorem atts_text_len (l : List Att) : (M4.attsB l).length ≤ 7 * szA l := by
  induction l with
  | nil => exact Nat.le_refl _
  | cons a r ih =>
    have e : M4.attsB (a :: r) = M4.attB a ++ M4.attsB r := by unfold M4.attsB; rw [List.flatMap_cons]
    have h := M2.escape_len true a.value.data.toList
    have h2 : (M4.attB a).length = 4 + a.name.size + (M2.escape true a.value.data.toList).length := by
      unfold M4.attB
      simp only [List.length_cons, List.length_append, List.length_nil]
      have : a.name.data.toList.length = a.name.size := rfl
      omega
    have h3 : a.value.data.toList.length = a.value.size := rfl
    rw [e, List.length_append, szA_cons]
    omega
theorem text_len8 (l : List Nd) : ∀ raw, (M4.textB raw l).length ≤ 7 * sz l := by
  induction l using Nd.ind with
  | h0 => intro raw; rw [M4.textB_nil]; exact Nat.zero_le _
  | h1 k n a t ks r ih1 ih2 =>
    intro raw
    rw [M4.textB_cons, List.length_append, sz_cons]
    have h2 := ih2 raw
    have h1 : (M4.oneB raw (.mk k n a t ks)).length ≤ 7 * sz1 (.mk k n a t ks) := by
      have e : sz1 (.mk k n a t ks) = 1 + n.size + szA a + t.size + sz ks := rfl
      rw [e]
      unfold M4.oneB
      by_cases hk1 : k = 1
      · rw [if_pos (show (Nd.mk k n a t ks).kind = 1 from hk1)]
        show (M4.headB n a ++ ((if M3.voidB n.data.toList = true then [] else M4.textB (M3.rawB n.data.toList) ks) ++ M4.endB n)).length ≤ _
        rw [List.length_append, List.length_append, M4.headB_len]
        have h3 := M4.endB_len n
        have h4 := atts_text_len a
        have h5 : (if M3.voidB n.data.toList = true then [] else M4.textB (M3.rawB n.data.toList) ks).length ≤ 7 * sz ks := by
          split
          · exact Nat.zero_le _
          · exact ih1 _
        omega
      rw [if_neg (show ¬ (Nd.mk k n a t ks).kind = 1 from hk1)]
      by_cases hk2 : k = 2
      · rw [if_pos (show (Nd.mk k n a t ks).kind = 2 from hk2)]
        show (M4.charsB raw t).length ≤ _
        have h3 : t.data.toList.length = t.size := rfl
        unfold M4.charsB
        split
        · omega
        · have := M2.escape_len false t.data.toList
          omega
      rw [if_neg (show ¬ (Nd.mk k n a t ks).kind = 2 from hk2)]
      by_cases hk3 : k = 3
      · rw [if_pos (show (Nd.mk k n a t ks).kind = 3 from hk3)]
        show (M4.commB t).length ≤ _
        unfold M4.commB
        simp only [List.length_append, List.length_cons, List.length_nil]
        have h3 : t.data.toList.length = t.size := rfl
        omega
      · rw [if_neg (show ¬ (Nd.mk k n a t ks).kind = 3 from hk3)]
        exact Nat.zero_le _
    omega
theorem atts_len_sz (l : List Att) : l.length ≤ szA l := by
  induction l with
  | nil => exact Nat.le_refl _
  | cons a r ih => rw [szA_cons, List.length_cons]; omega
theorem att_mem_sz {l : List Att} {a : Att} (h : a ∈ l) : a.name.size ≤ szA l ∧ a.value.size ≤ szA l := by
  induction l with
  | nil => exact (nomatch h)
  | cons b r ih =>
    rw [szA_cons]
    rcases List.mem_cons.1 h with rfl | h
    · omega
    · have := ih h; omega
theorem weight_sz (l : List Nd) : M3.weight l ≤ sz l := by
  induction l using Nd.ind with
  | h0 => rw [M3.weight_nil]; exact Nat.zero_le _
  | h1 k n a t ks r ih1 ih2 =>
    rw [M3.weight_cons, sz_cons]
    show 1 + a.length + M3.weight ks + M3.weight r ≤ (1 + n.size + szA a + t.size + sz ks) + sz r
    have := atts_len_sz a
    omega
theorem fit_sz8 (l : List Nd) : sz l ≤ 900000 → FitN l := by
  induction l using Nd.ind with
  | h0 => intro _; exact fitN_nil
  | h1 k n a t ks r ih1 ih2 =>
    intro h
    rw [sz_cons] at h
    have e : sz1 (.mk k n a t ks) = 1 + n.size + szA a + t.size + sz ks := rfl
    rw [e] at h
    have h1 := atts_len_sz a
    have h2 := weight_sz ks
    refine fitN_cons.2 ⟨⟨?_, ?_, ?_, ?_⟩, ih1 (by omega), ih2 (by omega)⟩
    · show n.size ≤ _; omega
    · show t.size ≤ _; omega
    · intro b hb
      have := att_mem_sz (show b ∈ a from hb)
      exact ⟨by omega, by omega⟩
    · show 1 + a.length + M3.weight ks ≤ _; omega
theorem toksN_Q (l : List Nd) : qs (M7.toksN l) ≤ 2 * sz l ∧ ∀ t ∈ M7.toksN l, TB (sz l) t := by
  induction l using Nd.ind with
  | h0 => rw [M7.toksN_nil]; exact ⟨Nat.zero_le _, fun t h => (nomatch h)⟩
  | h1 k n a t ks r ih1 ih2 =>
    obtain ⟨i1, i2⟩ := ih1
    obtain ⟨j1, j2⟩ := ih2
    have e : sz (.mk k n a t ks :: r) = 1 + n.size + szA a + t.size + sz ks + sz r := by rw [sz_cons]; rfl
    have h1 := atts_len_sz a
    rw [M7.toksN_cons, qs_app, e]
    have key : qs (M7.tokOne (.mk k n a t ks)) ≤ 2 * (1 + n.size + szA a + t.size + sz ks) ∧ ∀ u ∈ M7.tokOne (.mk k n a t ks), TB (1 + n.size + szA a + t.size + sz ks) u := by
      have hb : TB (1 + n.size + szA a + t.size + sz ks) ⟨1, n, a, ⟨#[]⟩⟩ := by
        refine ⟨?_, ?_, ?_, .inl rfl⟩
        · show n.size ≤ _; omega
        · show (0 : Nat) ≤ _; omega
        · show a.length ≤ _; omega
      have hen : TB (1 + n.size + szA a + t.size + sz ks) ⟨2, n, [], ⟨#[]⟩⟩ := by
        refine ⟨?_, ?_, ?_, .inr (.inl rfl)⟩
        · show n.size ≤ _; omega
        · show (0 : Nat) ≤ _; omega
        · show (0 : Nat) ≤ _; omega
      have htx : ∀ k', (k' = 3 ∨ k' = 4) → TB (1 + n.size + szA a + t.size + sz ks) ⟨k', ⟨#[]⟩, [], t⟩ := fun k' hk => by
        refine ⟨?_, ?_, ?_, .inr (.inr hk)⟩
        · show (0 : Nat) ≤ _; omega
        · show t.size ≤ _; omega
        · show (0 : Nat) ≤ _; omega
      unfold M7.tokOne
      by_cases hk1 : k = 1
      · rw [if_pos (show (Nd.mk k n a t ks).kind = 1 from hk1)]
        show qs (⟨1, n, a, ⟨#[]⟩⟩ :: (if M3.voidB n.data.toList = true then [] else M7.toksN ks ++ [⟨2, n, [], ⟨#[]⟩⟩])) ≤ _ ∧ ∀ u ∈ (⟨1, n, a, ⟨#[]⟩⟩ :: (if M3.voidB n.data.toList = true then [] else M7.toksN ks ++ [⟨2, n, [], ⟨#[]⟩⟩]) : List Tok), _
        have hq1 : ∀ (x : Tok) (y : List Tok), qs (x :: y) = tokQ x + qs y := fun x y => by unfold qs; rw [List.map_cons, List.sum_cons]
        have hq2 : tokQ ⟨1, n, a, ⟨#[]⟩⟩ = 1 + a.length + 0 := rfl
        have hq3 : tokQ ⟨2, n, [], ⟨#[]⟩⟩ = 1 := rfl
        split
        · refine ⟨by rw [hq1, hq2]; show _ + 0 ≤ _; omega, fun u hu => ?_⟩
          obtain rfl := List.mem_singleton.1 hu
          exact hb
        · refine ⟨by rw [hq1, hq2, qs_app, qs_one, hq3]; omega, fun u hu => ?_⟩
          rcases List.mem_cons.1 hu with rfl | hu
          · exact hb
          rcases List.mem_append.1 hu with hu | hu
          · exact (i2 u hu).mono (by omega)
          · obtain rfl := List.mem_singleton.1 hu
            exact hen
      rw [if_neg (show ¬ (Nd.mk k n a t ks).kind = 1 from hk1)]
      split
      · refine ⟨by rw [qs_one]; show 1 + 0 + t.size ≤ _; omega, fun u hu => ?_⟩
        obtain rfl := List.mem_singleton.1 hu
        exact htx 3 (.inl rfl)
      · refine ⟨by rw [qs_one]; show 1 + 0 + t.size ≤ _; omega, fun u hu => ?_⟩
        obtain rfl := List.mem_singleton.1 hu
        exact htx 4 (.inr rfl)
    refine ⟨by omega, fun u hu => ?_⟩
    rcases List.mem_append.1 hu with hu | hu
    · exact (key.2 u hu).mono (by omega)
    · exact (j2 u hu).mono (by omega)
theorem fitL_toksN {l : List Nd} (h : sz l ≤ 200000) : FitL (M7.toksN l) := by
  obtain ⟨h1, h2⟩ := toksN_Q l
  refine ⟨by unfold qs at h1; omega, fun t ht => ?_⟩
  obtain ⟨a, b, c, d⟩ := h2 t ht
  refine ⟨⟨by omega, by omega, by omega⟩, ?_⟩
  rcases d with e | e | e | e <;> rw [e] <;> decide
/-- The tokens of stable nodes' text fit a builder. -/
theorem stable_fit {l : List Nd} (hs : M6.stableB l = true) (h : sz l ≤ 200000) : FitL (M5.tokens (M4.textB false l)) := by
  unfold M6.stableB at hs
  rw [Bool.and_eq_true] at hs
  have hm : M3.mayE false l = 0 := by simpa using hs.1
  have := M5.toks_nodes l false [] (.inl rfl) hs.2 hm
  rw [List.append_nil, M5.toksR_nil] at this
  rw [M5.tokens_eq, this]
  show FitL (M7.toksN l ++ [])
  rw [List.append_nil]
  exact fitL_toksN h
end Go.Proofs.YteefodibpjgicaaGreat

/- Contracts of the library's shelf, laid in plain words (lay-plain.mjs), this program's numbers by name. -/
namespace Go.Proofs.YteefodibpjgicaaGreat
open Go.RowKit Go.Shelf
end Go.Proofs.YteefodibpjgicaaGreat

/- Package model: whether a raw element ends in its text; which nodes fit, and last. -/
namespace Go.Proofs.YteefodibpjgicaaGreat
open Go.RowKit
theorem endV_some (o : Option Nat) (n : Nat) : (endV o == (n : Int)) = (o == some n) := by
  rw [Bool.eq_iff_iff]
  cases o with
  | none => simp [endV]
  | some k => simp [endV]; omega

/-- A raw element's text and its end behind it. -/
theorem held_data (nm tx : ByteArray) : (tx ++ ⟨#[60, 47]⟩ ++ nm ++ ⟨#[62]⟩ : ByteArray).data.toList = tx.data.toList ++ ([60, 47] ++ nm.data.toList ++ [62]) := by
  simp [ByteArray.data_append, Array.toList_append]

def BoolB (b : Bool) (w : World) (e : Ending) (w' : World) : Prop := e = .returned (.bool b) ∧ Below w.heap.size w w'

end Go.Proofs.YteefodibpjgicaaGreat

/- Reference 6: has; fits. -/
namespace Go.Proofs.YteefodibpjgicaaGreat
open Go.RowKit
theorem has_short (w l : List UInt8) (h : l.length < w.length) : M6.hasB w l = false := by
  induction l with
  | nil => rfl
  | cons c r ih =>
    unfold M6.hasB at *
    have hp : w.isPrefixOf (c :: r) = false := by
      rw [Bool.eq_false_iff]
      intro e
      have := (List.isPrefixOf_iff_prefix.1 e).length_le
      omega
    have ih := ih (by simp only [List.length_cons] at h; omega)
    rw [M5.findL, hp, if_neg Bool.false_ne_true]
    simp only [decide_eq_false_iff_not, List.length_cons] at ih ⊢
    omega

theorem has_cons (w : List UInt8) (c : UInt8) (r : List UInt8) : M6.hasB w (c :: r) = (w.isPrefixOf (c :: r) || M6.hasB w r) := by
  unfold M6.hasB
  rw [M5.findL]
  cases hp : w.isPrefixOf (c :: r)
  · rw [if_neg Bool.false_ne_true, Bool.false_or, Bool.eq_iff_iff]
    simp
  · rw [if_pos rfl]
    simp

theorem has_step (wd : List UInt8) (s : ByteArray) (i n : Nat) (hn : wd.length = n) (h0 : 0 < n) (h : i + n ≤ s.size) : M6.hasB wd (s.data.toList.drop i) = (((s.extract i (i + n)).data.toList == wd) || M6.hasB wd (s.data.toList.drop (i + 1))) := by
  subst hn
  have hx : (s.extract i (i + wd.length)).data.toList = (s.data.toList.drop i).take wd.length := by rw [Lib.extract_data, Nat.add_sub_cancel_left]
  rw [hx]
  have e : wd.isPrefixOf (s.data.toList.drop i) = ((s.data.toList.drop i).take wd.length == wd) := by
    rw [Bool.eq_iff_iff, List.isPrefixOf_iff_prefix, List.prefix_iff_eq_take, beq_iff_eq]
    exact eq_comm
  rw [← e, drop_cons s i (by omega), has_cons]

set_option maxHeartbeats 1000000 in
theorem ref06has (s wd : ByteArray) (w : World) (hs : s.size ≤ 1073741824) (h0 : 0 < wd.size) (hw : wd.size ≤ 1000) :
    Calls Tryz.prog 58 #[.string s, .string wd] w fun e w' => e = .returned (.bool (M6.hasB wd.data.toList s.data.toList)) ∧ w = w' := by
  obtain ⟨R, hR⟩ : ∃ R, Hid (R = M6.hasB wd.data.toList (s.data.toList.drop 0)) := ⟨_, rfl⟩
  rw [show M6.hasB wd.data.toList s.data.toList = R from hR.out.symm]
  obtain ⟨n, hn⟩ : ∃ n, wd.size = n := ⟨_, rfl⟩
  have hwl : wd.data.toList.length = n := hn
  obtain ⟨wo, rfl⟩ : ∃ wo : World, wo = w := ⟨_, rfl⟩
  go_enter Tryz.func58, Tryz.ntmps58
  go_wp2_with fail
  go_loopw [5] (fun u5 wr => wo = wr ∧ ∃ i : Nat, i ≤ s.size + 1 ∧ u5 = .int .i64 (i : Int) ∧ Hid (R = M6.hasB wd.data.toList (s.data.toList.drop i))) (fun u5 _ => s.size + 1 - (intOf u5).toNat)
  case atStart => exact ⟨rfl, 0, by omega, rfl, hR⟩
  case round =>
    obtain ⟨rfl, i, hi, rfl, hv⟩ := hrel
    by_cases hlt : i + n ≤ s.size
    · have hd := hv.out.trans (has_step wd.data.toList s i n hwl (by omega) hlt)
      clear hv
      have hlt2 : i < s.size + 1 := by omega
      cases ht : ((s.extract i (i + n)).data.toList == wd.data.toList)
      · rw [ht, Bool.false_or] at hd
        have ht2 : ((s.extract i (i + n)).toList == wd.toList) = false := by rw [Lib.toList_data, Lib.toList_data]; exact ht
        clear ht
        replace hd := Lib.hid hd
        go_wp2_with fail
        go_roundw
        case rel => exact ⟨trivial, i + 1, by omega, by go_num, hd⟩
        case measure => exact meas_nat hlt2
      · rw [ht, Bool.true_or] at hd
        have ht2 : ((s.extract i (i + n)).toList == wd.toList) = true := by rw [Lib.toList_data, Lib.toList_data]; exact ht
        clear ht
        replace hd := Lib.hid hd
        go_wp2_with fail
        go_ret
        exact ⟨by rw [hd.out]; rfl, rfl⟩
    · have hd := hv.out.trans (has_short _ _ (by rw [List.length_drop, hwl]; show s.size - i < n; omega))
      replace hd := Lib.hid hd
      clear hv
      go_wp2_with fail
      go_ret
      exact ⟨by rw [hd.out]; rfl, rfl⟩

set_option maxHeartbeats 4000000 in
set_option maxRecDepth 100000 in
theorem ref06Fits (p : ByteArray) (x : Nd) (va vk : Value) (w : World) (hva : ∃ a n c, va = .slice a n c) (hvk : ∃ a n c, vk = .slice a n c) (hp : p.size ≤ 268435456) (ht : x.text.size ≤ 268435456) :
    Calls Tryz.prog 60 #[.string p, x.val va vk] w (BoolB (M6.fitsB p x) w) := by
  obtain ⟨a1, n1, c1, rfl⟩ := hva
  obtain ⟨a2, n2, c2, rfl⟩ := hvk
  have hV := Lib.hid (fun w => ref03Void p w)
  have hR := Lib.hid (fun w => ref03Raw p w)
  have hC := Lib.hid (fun w => ref06Closes p x.name w)
  obtain ⟨k, n, ats, tx, ks⟩ := x
  simp only [Nd.text, Nd.name] at hC ht
  have hz : (tx ++ ⟨#[60, 47]⟩ ++ p ++ ⟨#[62]⟩ : ByteArray).size ≤ 1073741824 := by
    simp only [ByteArray.size_append]
    show tx.size + 2 + p.size + 1 ≤ _
    omega
  have hE := fun w => ref05Ends (tx ++ ⟨#[60, 47]⟩ ++ p ++ ⟨#[62]⟩ : ByteArray) p w hz (by omega)
  rw [held_data] at hE
  have hv : Hid ((endV (M5.endsL ([60, 47] ++ p.data.toList) (tx.data.toList ++ ([60, 47] ++ p.data.toList ++ [62]))) == (tx.size : Int)) = M6.endsHere p.data.toList tx.data.toList) := by
    show _ = _
    rw [endV_some]
    rfl
  generalize M5.endsL ([60, 47] ++ p.data.toList) (tx.data.toList ++ ([60, 47] ++ p.data.toList ++ [62])) = o at *
  replace hE := Lib.hid hE
  have hfit : M6.fitsB p (.mk k n ats tx ks) = if M3.voidB p.data.toList then false else if M3.rawB p.data.toList then (k == 2) && M6.endsHere p.data.toList tx.data.toList else !(decide (k = 1) && M6.closesB p.data.toList n.data.toList) := rfl
  rw [hfit]
  clear hfit hz
  show Calls Tryz.prog 60 #[.string p, .agg #[.int .i64 k, .string n, .slice a1 n1 c1, .string tx, .slice a2 n2 c2]] w (BoolB _ w)
  have z1 : ¬ 9223372036854775807 < tx.size + 2 := by omega
  have z2 : ¬ 9223372036854775807 < tx.size + 2 + p.size := by omega
  have z3 : ¬ 9223372036854775807 < tx.size + 2 + p.size + 1 := by omega
  obtain ⟨wo, rfl⟩ : ∃ wo : World, wo = w := ⟨_, rfl⟩
  have bx := Box.new wo 41 [.int .i64 k, .string n, .slice a1 n1 c1, .string tx, .slice a2 n2 c2]
  have hb0 : Below wo.heap.size wo (wo.alloc (.cells #[.int .i64 k, .string n, .slice a1 n1 c1, .string tx, .slice a2 n2 c2] 41)) := (Below.refl _ wo).alloc (Nat.le_refl _) _
  cases hvd : M3.voidB p.data.toList
  · cases hr : M3.rawB p.data.toList
    · generalize M6.closesB p.data.toList n.data.toList = cb at *
      rw [hvd] at hV
      rw [hr] at hR
      rw [if_neg Bool.false_ne_true, if_neg Bool.false_ne_true]
      cases hk : (k == 1)
      · rw [show decide (k = 1) = false from hk]
        have hk3 : (k != 1) = true := by rw [bne, hk]; rfl
        go_enter Tryz.func60, Tryz.ntmps60
        go_wp2_with fail
        refine (hV.out _).mono ?_
        rintro e w1 ⟨rfl, rfl⟩
        go_wp2_with fail
        refine (hR.out _).mono ?_
        rintro e w1 ⟨rfl, rfl⟩
        go_wp2_with fail
        refine (hC.out _).mono ?_
        rintro e w1 ⟨rfl, hb1⟩
        have bx1 := bx.below hb1 (by simp)
        have p0 := bx1.cell (i := 0) rfl
        go_wp2_with fail
        go_ret
        exact ⟨rfl, bt hb0 hb1⟩
      · rw [show decide (k = 1) = true from hk]
        have hk3 : (k != 1) = false := by rw [bne, hk]; rfl
        go_enter Tryz.func60, Tryz.ntmps60
        go_wp2_with fail
        refine (hV.out _).mono ?_
        rintro e w1 ⟨rfl, rfl⟩
        go_wp2_with fail
        refine (hR.out _).mono ?_
        rintro e w1 ⟨rfl, rfl⟩
        go_wp2_with fail
        refine (hC.out _).mono ?_
        rintro e w1 ⟨rfl, hb1⟩
        have bx1 := bx.below hb1 (by simp)
        have p0 := bx1.cell (i := 0) rfl
        go_wp2_with fail
        go_ret
        exact ⟨by cases cb <;> rfl, bt hb0 hb1⟩
    · rw [hvd] at hV
      rw [hr] at hR
      rw [if_neg Bool.false_ne_true, if_pos rfl]
      cases hk : (k == 2)
      · rw [Bool.false_and]
        go_enter Tryz.func60, Tryz.ntmps60
        go_wp2_with fail
        refine (hV.out _).mono ?_
        rintro e w1 ⟨rfl, rfl⟩
        go_wp2_with fail
        refine (hR.out _).mono ?_
        rintro e w1 ⟨rfl, rfl⟩
        go_wp2_with fail
        go_quiet (fail)
        go_wp2_with fail
        go_ret
        exact ⟨rfl, below_drewN hb0 _⟩
      · obtain rfl : k = 2 := by simpa using hk
        go_enter Tryz.func60, Tryz.ntmps60
        go_wp2_with fail
        refine (hV.out _).mono ?_
        rintro e w1 ⟨rfl, rfl⟩
        go_wp2_with fail
        refine (hR.out _).mono ?_
        rintro e w1 ⟨rfl, rfl⟩
        go_wp2_with fail
        have hsz : (wo.alloc (.cells #[.int .i64 2, .string n, .slice a1 n1 c1, .string tx, .slice a2 n2 c2] 41)).heap.size = wo.heap.size + 1 := by simp
        obtain ⟨W0, hW0⟩ : ∃ W0, wo.alloc (.cells #[.int .i64 2, .string n, .slice a1 n1 c1, .string tx, .slice a2 n2 c2] 41) = W0 := ⟨_, rfl⟩
        change Box (wo.alloc (.cells #[.int .i64 2, .string n, .slice a1 n1 c1, .string tx, .slice a2 n2 c2] 41)) _ _ _ at bx
        rw [hW0] at bx hb0 hsz ⊢
        clear hW0
        have p0 := bx.cell (i := 0) rfl
        have p3 := bx.cell (i := 3) rfl
        refine wp_region_known (n := 18) ([some (.pointer (some ⟨wo.heap.size, 0, none⟩)), some (.int .i64 2), some (.bool true), some (.bool true), some (.pointer (some ⟨wo.heap.size, 3, none⟩)), some (.string tx), some (.string (tx ++ ⟨#[60, 47]⟩)), some (Value.string p), some (.string (tx ++ ⟨#[60, 47]⟩ ++ p)), some (.string (tx ++ ⟨#[60, 47]⟩ ++ p ++ ⟨#[62]⟩)), some (Value.string p), some (.int .i64 (endV o)), some (.pointer (some ⟨wo.heap.size, 3, none⟩)), some (.string tx), some (.int .i64 (tx.size : Int)), some (.bool (endV o == (tx.size : Int))), some (.bool (endV o == (tx.size : Int))), some (.bool (endV o == (tx.size : Int)))] : List (Option Value)) (fun t => ⟨#[Value.string p, Value.agg #[Value.int IntKind.i64 2, Value.string n, Value.slice a1 n1 c1, Value.string tx, Value.slice a2 n2 c2], undef, Value.pointer (some ⟨wo.heap.size, 0, none⟩), t 17, Value.bool false, Value.bool true, undef, Value.string p, Value.bool false, Value.string p, Value.bool true, Value.bool false, Value.bool true, t 0, t 1, t 2, t 3, t 4, t 5, t 6, t 7, t 8, t 9, t 10, t 11, t 12, t 13, t 14, t 15, t 16, undef, undef, undef, undef, undef, undef, undef, undef, undef, undef, undef], []⟩) (fun f t W => Below W0.heap.size W0 W) (fun j => match j with | 0 => undef | 1 => undef | 2 => undef | 3 => undef | 4 => undef | 5 => undef | 6 => undef | 7 => undef | 8 => undef | 9 => undef | 10 => undef | 11 => undef | 12 => undef | 13 => undef | 14 => undef | 15 => undef | 16 => undef | 17 => Value.bool false | _ => undef) (by kernel_rfl) (by rfl) (by rfl) (by kernel_rfl) rfl ?i0 ?step ?fin
        case i0 =>
          exact (Below.refl _ W0).drew
        case step =>
          intro j0 hj0 f t W hfi hwt hk2 hI
          have s0 := cell_of_below hI p0 (by omega)
          have s3 := cell_of_below hI p3 (by omega)
          obtain rfl | rfl | rfl | rfl | rfl | rfl | rfl | rfl | rfl | rfl | rfl | rfl | rfl | rfl | rfl | rfl | rfl | rfl : j0 = 0 ∨ j0 = 1 ∨ j0 = 2 ∨ j0 = 3 ∨ j0 = 4 ∨ j0 = 5 ∨ j0 = 6 ∨ j0 = 7 ∨ j0 = 8 ∨ j0 = 9 ∨ j0 = 10 ∨ j0 = 11 ∨ j0 = 12 ∨ j0 = 13 ∨ j0 = 14 ∨ j0 = 15 ∨ j0 = 16 ∨ j0 = 17 := by omega
          · -- operation 0
            replace hI := Lib.hid hI
            replace hk2 := Lib.hid hk2
            clear hwt
            refine wpOp_step rfl (fun K hK => ?_)
            go_simp
            exact hK _ _ ⟨_, by simp [updT], hk2.out.at_ rfl, hI.out⟩
          · -- operation 1
            have e0 : t 0 = .pointer (some ⟨wo.heap.size, 0, none⟩) := hk2 0 _ (hwt 0 (by kernel_rfl)) rfl
            replace hI := Lib.hid hI
            replace hk2 := Lib.hid hk2
            clear hwt
            refine wpOp_step rfl (fun K hK => ?_)
            go_simp
            exact hK _ _ ⟨_, by simp [updT, e0], hk2.out.at_ rfl, hI.out⟩
          · -- operation 2
            have e1 : t 1 = .int .i64 2 := hk2 1 _ (hwt 1 (by kernel_rfl)) rfl
            replace hI := Lib.hid hI
            replace hk2 := Lib.hid hk2
            clear hwt
            refine wpOp_step rfl (fun K hK => ?_)
            go_simp
            exact hK _ _ ⟨_, by simp [updT, e1], hk2.out.at_ rfl, hI.out⟩
          · -- operation 3
            have e2 : t 2 = .bool true := hk2 2 _ (hwt 2 (by kernel_rfl)) rfl
            replace hI := Lib.hid hI
            replace hk2 := Lib.hid hk2
            clear hwt
            refine wpOp_step rfl (fun K hK => ?_)
            go_simp
            exact hK _ _ ⟨_, by simp [updT, e2], hk2.out.at_ rfl, hI.out⟩
          · -- operation 4
            have e3 : t 3 = .bool true := hk2 3 _ (hwt 3 (by kernel_rfl)) rfl
            replace hI := Lib.hid hI
            replace hk2 := Lib.hid hk2
            clear hwt
            refine wpOp_step rfl (fun K hK => ?_)
            go_simp
            exact hK _ _ ⟨_, by simp [updT, e3], hk2.out.at_ rfl, hI.out⟩
          · -- operation 5
            have e3 : t 3 = .bool true := hk2 3 _ (hwt 3 (by kernel_rfl)) rfl
            have e4 : t 4 = .pointer (some ⟨wo.heap.size, 3, none⟩) := hk2 4 _ (hwt 4 (by kernel_rfl)) rfl
            replace hI := Lib.hid hI
            replace hk2 := Lib.hid hk2
            clear hwt
            refine wpOp_step rfl (fun K hK => ?_)
            go_simp
            exact hK _ _ ⟨_, by simp [updT, e3, e4], hk2.out.at_ rfl, hI.out⟩
          · -- operation 6
            have e3 : t 3 = .bool true := hk2 3 _ (hwt 3 (by kernel_rfl)) rfl
            have e5 : t 5 = .string tx := hk2 5 _ (hwt 5 (by kernel_rfl)) rfl
            replace hI := Lib.hid hI
            replace hk2 := Lib.hid hk2
            clear hwt
            refine wpOp_step rfl (fun K hK => ?_)
            go_simp
            exact hK _ _ ⟨_, by simp [updT, e3, e5], hk2.out.at_ rfl, hI.out⟩
          · -- operation 7
            have e3 : t 3 = .bool true := hk2 3 _ (hwt 3 (by kernel_rfl)) rfl
            replace hI := Lib.hid hI
            replace hk2 := Lib.hid hk2
            clear hwt
            refine wpOp_step rfl (fun K hK => ?_)
            go_simp
            exact hK _ _ ⟨_, by simp [updT, e3], hk2.out.at_ rfl, hI.out⟩
          · -- operation 8
            have e3 : t 3 = .bool true := hk2 3 _ (hwt 3 (by kernel_rfl)) rfl
            have e6 : t 6 = .string (tx ++ ⟨#[60, 47]⟩) := hk2 6 _ (hwt 6 (by kernel_rfl)) rfl
            have e7 : t 7 = Value.string p := hk2 7 _ (hwt 7 (by kernel_rfl)) rfl
            replace hI := Lib.hid hI
            replace hk2 := Lib.hid hk2
            clear hwt
            refine wpOp_step rfl (fun K hK => ?_)
            go_simp
            exact hK _ _ ⟨_, by simp [updT, e3, e6, e7], hk2.out.at_ rfl, hI.out⟩
          · -- operation 9
            have e3 : t 3 = .bool true := hk2 3 _ (hwt 3 (by kernel_rfl)) rfl
            have e8 : t 8 = .string (tx ++ ⟨#[60, 47]⟩ ++ p) := hk2 8 _ (hwt 8 (by kernel_rfl)) rfl
            replace hI := Lib.hid hI
            replace hk2 := Lib.hid hk2
            clear hwt
            refine wpOp_step rfl (fun K hK => ?_)
            go_simp
            exact hK _ _ ⟨_, by simp [updT, e3, e8], hk2.out.at_ rfl, hI.out⟩
          · -- operation 10
            have e3 : t 3 = .bool true := hk2 3 _ (hwt 3 (by kernel_rfl)) rfl
            replace hI := Lib.hid hI
            replace hk2 := Lib.hid hk2
            clear hwt
            refine wpOp_step rfl (fun K hK => ?_)
            go_simp
            exact hK _ _ ⟨_, by simp [updT, e3], hk2.out.at_ rfl, hI.out⟩
          · -- operation 11
            have e3 : t 3 = .bool true := hk2 3 _ (hwt 3 (by kernel_rfl)) rfl
            have e9 : t 9 = .string (tx ++ ⟨#[60, 47]⟩ ++ p ++ ⟨#[62]⟩) := hk2 9 _ (hwt 9 (by kernel_rfl)) rfl
            have e10 : t 10 = Value.string p := hk2 10 _ (hwt 10 (by kernel_rfl)) rfl
            have hC := Lib.hid (hE.out W)
            replace hk2 := Lib.hid hk2
            replace hI := Lib.hid hI
            clear hwt
            refine wpOp_step rfl (fun K hK => ?_)
            go_simp
            refine hC.out.mono ?_
            rintro e w5 ⟨rfl, hb5⟩
            exact hK _ _ ⟨_, by simp [updT, e3, e9, e10], hk2.out.at_ rfl, hI.out.trans (hb5.mono hI.out.size)⟩
          · -- operation 12
            have e3 : t 3 = .bool true := hk2 3 _ (hwt 3 (by kernel_rfl)) rfl
            replace hI := Lib.hid hI
            replace hk2 := Lib.hid hk2
            clear hwt
            refine wpOp_step rfl (fun K hK => ?_)
            go_simp
            exact hK _ _ ⟨_, by simp [updT, e3], hk2.out.at_ rfl, hI.out⟩
          · -- operation 13
            have e3 : t 3 = .bool true := hk2 3 _ (hwt 3 (by kernel_rfl)) rfl
            have e12 : t 12 = .pointer (some ⟨wo.heap.size, 3, none⟩) := hk2 12 _ (hwt 12 (by kernel_rfl)) rfl
            replace hI := Lib.hid hI
            replace hk2 := Lib.hid hk2
            clear hwt
            refine wpOp_step rfl (fun K hK => ?_)
            go_simp
            exact hK _ _ ⟨_, by simp [updT, e3, e12], hk2.out.at_ rfl, hI.out⟩
          · -- operation 14
            have e3 : t 3 = .bool true := hk2 3 _ (hwt 3 (by kernel_rfl)) rfl
            have e13 : t 13 = .string tx := hk2 13 _ (hwt 13 (by kernel_rfl)) rfl
            replace hI := Lib.hid hI
            replace hk2 := Lib.hid hk2
            clear hwt
            refine wpOp_step rfl (fun K hK => ?_)
            go_simp
            exact hK _ _ ⟨_, by simp [updT, e3, e13], hk2.out.at_ rfl, hI.out⟩
          · -- operation 15
            have e3 : t 3 = .bool true := hk2 3 _ (hwt 3 (by kernel_rfl)) rfl
            have e11 : t 11 = .int .i64 (endV o) := hk2 11 _ (hwt 11 (by kernel_rfl)) rfl
            have e14 : t 14 = .int .i64 (tx.size : Int) := hk2 14 _ (hwt 14 (by kernel_rfl)) rfl
            replace hI := Lib.hid hI
            replace hk2 := Lib.hid hk2
            clear hwt
            refine wpOp_step rfl (fun K hK => ?_)
            go_simp
            exact hK _ _ ⟨_, by simp [updT, e3, e11, e14], hk2.out.at_ rfl, hI.out⟩
          · -- operation 16
            have e3 : t 3 = .bool true := hk2 3 _ (hwt 3 (by kernel_rfl)) rfl
            have e15 : t 15 = .bool (endV o == (tx.size : Int)) := hk2 15 _ (hwt 15 (by kernel_rfl)) rfl
            replace hI := Lib.hid hI
            replace hk2 := Lib.hid hk2
            clear hwt
            refine wpOp_step rfl (fun K hK => ?_)
            go_simp
            exact hK _ _ ⟨_, by simp [updT, e3, e15], hk2.out.at_ rfl, hI.out⟩
          · -- operation 17
            have e16 : t 16 = .bool (endV o == (tx.size : Int)) := hk2 16 _ (hwt 16 (by kernel_rfl)) rfl
            replace hI := Lib.hid hI
            replace hk2 := Lib.hid hk2
            clear hwt
            refine wpOp_step rfl (fun K hK => ?_)
            go_simp
            exact hK _ _ ⟨_, by simp [updT, e16], hk2.out.at_ rfl, hI.out⟩
        case fin =>
          intro f t W hall hk2 hI
          have e17 := hk2 17 _ (hall 17 (by omega)) rfl
          clear hk2 hall
          dsimp only
          rw [e17]
          go_wp2_with fail
          go_ret
          exact ⟨by rw [← hv.out]; rfl, bt hb0 hI⟩
  · rw [if_pos rfl]
    rw [hvd] at hV
    go_enter Tryz.func60, Tryz.ntmps60
    go_wp2_with fail
    refine (hV.out _).mono ?_
    rintro e w1 ⟨rfl, rfl⟩
    go_wp2_with fail
    refine (hR.out _).mono ?_
    rintro e w1 ⟨rfl, rfl⟩
    go_wp2_with fail
    go_ret
    exact ⟨rfl, hb0⟩
end Go.Proofs.YteefodibpjgicaaGreat

/- Package model: which nodes are stable. -/
namespace Go.Proofs.YteefodibpjgicaaGreat
open Go.RowKit
end Go.Proofs.YteefodibpjgicaaGreat

/- Reference 6: which nodes are stable. -/
namespace Go.Proofs.YteefodibpjgicaaGreat
open Go.RowKit
theorem allB_drop (l : List Nd) (i : Nat) (h : i < l.length) : M6.allB (l.drop i) = (M6.oneS l[i] && M6.allB (l.drop (i + 1))) := by
  rw [List.drop_eq_getElem_cons h, M6.allB_cons]

theorem all_drop (q : Nd → Bool) (l : List Nd) (i : Nat) (h : i < l.length) : (l.drop i).all q = (q l[i] && (l.drop (i + 1)).all q) := by
  rw [List.drop_eq_getElem_cons h, List.all_cons]

set_option maxHeartbeats 8000000 in
set_option maxRecDepth 100000 in
theorem ref06all (wt : Nat) : ∀ (S : Nat → Prop) (v : Value) (l : List Nd) (w : World), M3.weight l < wt → FitN l → (∀ b, S b → b < w.heap.size) → RepN S w v l →
    Calls Tryz.prog 40 #[v] w (BoolB (M6.allB l) w) := by
  induction wt with
  | zero => intro S v l w h; omega
  | succ wt ih =>
  intro S v l w hwt hfit hS hr
  obtain ⟨a, cap, rfl⟩ := hr.slice
  obtain ⟨_, hlc, hcm⟩ := hr.len
  replace ih := Lib.hid ih
  have h0 : Hid (M6.allB l = M6.allB (l.drop 0)) := rfl
  replace hfit := Lib.hid hfit
  obtain ⟨wo, rfl⟩ : ∃ wo : World, wo = w := ⟨_, rfl⟩
  go_enter Tryz.func40, Tryz.ntmps40
  go_wp2_with fail
  go_loopw [3, 4, 5, 6] (fun u3 _ _ _ wr => ∃ i : Nat, i ≤ l.length ∧ u3 = .int .i64 (i : Int) ∧ Hid (M6.allB l = M6.allB (l.drop i)) ∧ Below wo.heap.size wo wr) (fun u3 _ _ _ _ => l.length - (intOf u3).toNat)
  case atStart => exact ⟨0, by omega, rfl, h0, Below.refl _ _⟩
  case round =>
    obtain ⟨i, hi, rfl, hv, hb⟩ := hrel
    have hz := hb.size
    by_cases hlt : i < l.length
    · have hr1 := hr.below hS hb
      obtain ⟨b, off, va, vk, rfl, hSb, c0, c1, c2, c3, c4, hrv⟩ := hr1.at_ i hlt
      have hbl := hS b hSb
      have hmd := hv.out.trans (allB_drop l i hlt)
      obtain ⟨hf1, hf2⟩ := fitN_iff.1 hfit.out _ (List.getElem_mem hlt)
      have hwk := weight_mem (List.getElem_mem hlt)
      generalize l[i] = x at *
      obtain ⟨a1, e1, rfl⟩ := hrv.at_.slice
      obtain ⟨a2, e2, rfl⟩ := hrv.kids.slice
      obtain ⟨_, hlc2, hcm2⟩ := hrv.kids.len
      have hih := Lib.hid (fun W (hW : Below wr.heap.size wr W) => ih.out S (.slice a2 x.kids.length e2) x.kids W (by omega) hf2 (fun b h => by have := hS b h; have := hW.size; omega) (RepN.below (w := wr) (B := wr.heap.size) hrv.kids (fun b h => by have := hS b h; omega) hW))
      have hH := Lib.hid (fun W => ref06has x.text ⟨#[45, 45, 62]⟩ W (by have := hf1.2.1; omega) (by decide) (by decide))
      clear hv hr1
      have hone : M6.oneS x = (!((x.kind == 3) && M6.hasB [45, 45, 62] x.text.data.toList) && (x.kids.all (M6.fitsB x.name) && M6.allB x.kids)) := rfl
      rw [hone] at hmd
      clear hone
      replace hmd := Lib.hid hmd
      have hI0 : (0 : Int) ≤ (i : Int) := by omega
      have hI1 : (i : Int) < (l.length : Int) := by omega
      obtain ⟨rm, hrm⟩ : ∃ rm, ((x.kind == 3) && M6.hasB [45, 45, 62] x.text.data.toList) = rm := ⟨_, rfl⟩
      cases rm
      · -- it is no comment that ends in itself
        have hmd := hmd.out
        rw [hrm, Bool.not_false, Bool.true_and] at hmd
        replace hmd := Lib.hid hmd
        cases hk3 : (x.kind == 3)
        · go_wp2_with fail
          have hq0 : Hid (x.kids.all (M6.fitsB x.name) = (x.kids.drop 0).all (M6.fitsB x.name)) := rfl
          clear hH
          obtain ⟨wq, rfl⟩ : ∃ wq : World, wq = wr := ⟨_, rfl⟩
          go_loopw [4, 5] (fun u4 _ wr => ∃ k : Nat, k ≤ x.kids.length ∧ u4 = .int .i64 (k : Int) ∧ Hid (x.kids.all (M6.fitsB x.name) = (x.kids.drop k).all (M6.fitsB x.name)) ∧ Below wq.heap.size wq wr) (fun u4 _ _ => x.kids.length - (intOf u4).toNat)
          case atStart => exact ⟨0, by omega, rfl, hq0, Below.refl _ _⟩
          case round =>
            obtain ⟨k, hk, rfl, hv2, hb2⟩ := hrel
            have hz2 := hb2.size
            have c1' := cell_of_below hb2 c1 (by omega)
            have c4' := cell_of_below hb2 c4 (by omega)
            by_cases hlt2 : k < x.kids.length
            · have hrk := RepN.below (w := wq) (B := wq.heap.size) hrv.kids (fun b h => by have := hS b h; omega) hb2
              obtain ⟨b2, off2, va2, vk2, rfl, hSb2, d0, d1, d2, d3, d4, hrv2⟩ := hrk.at_ k hlt2
              have hmd2 := hv2.out.trans (all_drop _ x.kids k hlt2)
              obtain ⟨hg1, hg2⟩ := fitN_iff.1 hf2 _ (List.getElem_mem hlt2)
              generalize x.kids[k] = y at *
              obtain ⟨a3, e3, rfl⟩ := hrv2.at_.slice
              obtain ⟨a4, e4, rfl⟩ := hrv2.kids.slice
              have hF := Lib.hid (fun W => ref06Fits x.name y (.slice a3 y.attrs.length e3) (.slice a4 y.kids.length e4) W ⟨_, _, _, rfl⟩ ⟨_, _, _, rfl⟩ hf1.1 hg1.2.1)
              clear hv2 hrk hrv2
              have hK0 : (0 : Int) ≤ (k : Int) := by omega
              have hK1 : (k : Int) < (x.kids.length : Int) := by omega
              replace hmd2 := Lib.hid hmd2
              generalize M6.fitsB x.name y = q at *
              go_wp2_with fail
              go_still_tail 13, (by kernel_rfl)
              change wpList _ _ _ _ _ wr.drew
              go_wp2_with fail
              refine (hF.out _).mono ?_
              rintro e w3 ⟨rfl, hb3⟩
              have hbw3 : Below wq.heap.size wq w3 := bt hb2.drew hb3
              clear hF
              cases q
              · have hmd2 := hmd2.out
                rw [Bool.false_and] at hmd2
                have hmd := hmd.out
                rw [hmd2, Bool.false_and, Bool.false_and] at hmd
                replace hmd2 := Lib.hid hmd2
                replace hmd := Lib.hid hmd
                go_wp2_with fail
                go_ret
                exact ⟨by rw [hmd.out]; rfl, bt hb hbw3⟩
              · have hmd2 := hmd2.out
                rw [Bool.true_and] at hmd2
                replace hmd2 := Lib.hid hmd2
                go_wp2_with fail
                go_roundw
                case rel => exact ⟨k + 1, by omega, by go_num, hmd2, hbw3⟩
                case measure => exact meas_nat hlt2
            · obtain rfl : k = x.kids.length := by omega
              have hmd2 := hv2.out
              rw [List.drop_length, List.all_nil] at hmd2
              have hmd := hmd.out
              rw [hmd2, Bool.true_and] at hmd
              replace hmd := Lib.hid hmd
              replace hmd2 := Lib.hid hmd2
              have hk2 := Lib.hid (hih.out _ hb2)
              clear hih hv2
              go_wp2_with fail
              refine hk2.out.mono ?_
              rintro e w3 ⟨rfl, hb3⟩
              have hbw3 := bt hb (bt hb2 hb3)
              clear hk2
              generalize M6.allB x.kids = q at *
              cases q
              · have hmd := hmd.out
                rw [Bool.false_and] at hmd
                replace hmd := Lib.hid hmd
                go_wp2_with fail
                go_ret
                exact ⟨by rw [hmd.out]; rfl, hbw3⟩
              · have hmd := hmd.out
                rw [Bool.true_and] at hmd
                replace hmd := Lib.hid hmd
                go_wp2_with fail
                go_roundw
                case rel => exact ⟨i + 1, by omega, by go_num, hmd, hbw3⟩
                case measure => exact meas_nat hlt
        · rw [hk3, Bool.true_and] at hrm
          have hH := hH.out
          change ∀ W, Calls _ _ _ W fun e w' => e = .returned (.bool (M6.hasB [45, 45, 62] x.text.data.toList)) ∧ W = w' at hH
          rw [hrm] at hH
          replace hH := Lib.hid hH
          go_wp2_with fail
          refine (hH.out _).mono ?_
          rintro e w2 ⟨rfl, rfl⟩
          go_wp2_with fail
          have hq0 : Hid (x.kids.all (M6.fitsB x.name) = (x.kids.drop 0).all (M6.fitsB x.name)) := rfl
          clear hH
          obtain ⟨wq, rfl⟩ : ∃ wq : World, wq = wr := ⟨_, rfl⟩
          go_loopw [4, 5] (fun u4 _ wr => ∃ k : Nat, k ≤ x.kids.length ∧ u4 = .int .i64 (k : Int) ∧ Hid (x.kids.all (M6.fitsB x.name) = (x.kids.drop k).all (M6.fitsB x.name)) ∧ Below wq.heap.size wq wr) (fun u4 _ _ => x.kids.length - (intOf u4).toNat)
          case atStart => exact ⟨0, by omega, rfl, hq0, Below.refl _ _⟩
          case round =>
            obtain ⟨k, hk, rfl, hv2, hb2⟩ := hrel
            have hz2 := hb2.size
            have c1' := cell_of_below hb2 c1 (by omega)
            have c4' := cell_of_below hb2 c4 (by omega)
            by_cases hlt2 : k < x.kids.length
            · have hrk := RepN.below (w := wq) (B := wq.heap.size) hrv.kids (fun b h => by have := hS b h; omega) hb2
              obtain ⟨b2, off2, va2, vk2, rfl, hSb2, d0, d1, d2, d3, d4, hrv2⟩ := hrk.at_ k hlt2
              have hmd2 := hv2.out.trans (all_drop _ x.kids k hlt2)
              obtain ⟨hg1, hg2⟩ := fitN_iff.1 hf2 _ (List.getElem_mem hlt2)
              generalize x.kids[k] = y at *
              obtain ⟨a3, e3, rfl⟩ := hrv2.at_.slice
              obtain ⟨a4, e4, rfl⟩ := hrv2.kids.slice
              have hF := Lib.hid (fun W => ref06Fits x.name y (.slice a3 y.attrs.length e3) (.slice a4 y.kids.length e4) W ⟨_, _, _, rfl⟩ ⟨_, _, _, rfl⟩ hf1.1 hg1.2.1)
              clear hv2 hrk hrv2
              have hK0 : (0 : Int) ≤ (k : Int) := by omega
              have hK1 : (k : Int) < (x.kids.length : Int) := by omega
              replace hmd2 := Lib.hid hmd2
              generalize M6.fitsB x.name y = q at *
              go_wp2_with fail
              go_still_tail 13, (by kernel_rfl)
              change wpList _ _ _ _ _ wr.drew
              go_wp2_with fail
              refine (hF.out _).mono ?_
              rintro e w3 ⟨rfl, hb3⟩
              have hbw3 : Below wq.heap.size wq w3 := bt hb2.drew hb3
              clear hF
              cases q
              · have hmd2 := hmd2.out
                rw [Bool.false_and] at hmd2
                have hmd := hmd.out
                rw [hmd2, Bool.false_and, Bool.false_and] at hmd
                replace hmd2 := Lib.hid hmd2
                replace hmd := Lib.hid hmd
                go_wp2_with fail
                go_ret
                exact ⟨by rw [hmd.out]; rfl, bt hb hbw3⟩
              · have hmd2 := hmd2.out
                rw [Bool.true_and] at hmd2
                replace hmd2 := Lib.hid hmd2
                go_wp2_with fail
                go_roundw
                case rel => exact ⟨k + 1, by omega, by go_num, hmd2, hbw3⟩
                case measure => exact meas_nat hlt2
            · obtain rfl : k = x.kids.length := by omega
              have hmd2 := hv2.out
              rw [List.drop_length, List.all_nil] at hmd2
              have hmd := hmd.out
              rw [hmd2, Bool.true_and] at hmd
              replace hmd := Lib.hid hmd
              replace hmd2 := Lib.hid hmd2
              have hk2 := Lib.hid (hih.out _ hb2)
              clear hih hv2
              go_wp2_with fail
              refine hk2.out.mono ?_
              rintro e w3 ⟨rfl, hb3⟩
              have hbw3 := bt hb (bt hb2 hb3)
              clear hk2
              generalize M6.allB x.kids = q at *
              cases q
              · have hmd := hmd.out
                rw [Bool.false_and] at hmd
                replace hmd := Lib.hid hmd
                go_wp2_with fail
                go_ret
                exact ⟨by rw [hmd.out]; rfl, hbw3⟩
              · have hmd := hmd.out
                rw [Bool.true_and] at hmd
                replace hmd := Lib.hid hmd
                go_wp2_with fail
                go_roundw
                case rel => exact ⟨i + 1, by omega, by go_num, hmd, hbw3⟩
                case measure => exact meas_nat hlt
      · rw [Bool.and_eq_true] at hrm
        obtain ⟨hk3, hrm⟩ := hrm
        have hH := hH.out
        change ∀ W, Calls _ _ _ W fun e w' => e = .returned (.bool (M6.hasB [45, 45, 62] x.text.data.toList)) ∧ W = w' at hH
        have hmd := hmd.out
        rw [hrm] at hH
        rw [hk3, hrm, Bool.and_self, Bool.not_true, Bool.false_and, Bool.false_and] at hmd
        replace hH := Lib.hid hH
        replace hmd := Lib.hid hmd
        go_wp2_with fail
        refine (hH.out _).mono ?_
        rintro e w2 ⟨rfl, rfl⟩
        go_wp2_with fail
        go_ret
        exact ⟨by rw [hmd.out]; rfl, hb⟩
    · obtain rfl : i = l.length := by omega
      have hd := hv.out
      rw [List.drop_length, M6.allB_nil] at hd
      replace hd := Lib.hid hd
      clear hv
      go_wp2_with fail
      go_ret
      exact ⟨by rw [hd.out]; rfl, hb⟩

set_option maxHeartbeats 1000000 in
theorem ref06Stable (S : Nat → Prop) (v : Value) (l : List Nd) (w : World) (hf : FitN l) (hS : ∀ b, S b → b < w.heap.size) (hr : RepN S w v l) :
    Calls Tryz.prog 23 #[v] w (BoolB (M6.stableB l) w) := by
  have hM := Lib.hid (ref03May (M3.weight l + 1) S v l w (by omega) hf hS hr)
  have hL := Lib.hid (fun W (hb : Below w.heap.size w W) => ref06all (M3.weight l + 1) S v l W (by omega) hf (fun b h => Nat.lt_of_lt_of_le (hS b h) hb.size) (hr.below hS hb))
  unfold M6.stableB
  obtain ⟨a, cap, rfl⟩ := hr.slice
  clear hr
  generalize M6.allB l = q at *
  obtain ⟨wo, rfl⟩ : ∃ wo : World, wo = w := ⟨_, rfl⟩
  go_enter Tryz.func23, Tryz.ntmps23
  go_wp2_with fail
  refine hM.out.mono ?_
  rintro e w1 ⟨rfl, hb1⟩
  have hL1 := Lib.hid (hL.out w1 hb1)
  clear hL hM
  generalize M3.mayE false l = m at *
  cases hm : (m == 0)
  · go_wp2_with fail
    go_ret
    exact ⟨by rw [show decide (m = 0) = false from hm]; rfl, hb1⟩
  · go_wp2_with fail
    refine hL1.out.mono ?_
    rintro e w2 ⟨rfl, hb2⟩
    go_wp2_with fail
    go_ret
    exact ⟨by rw [show decide (m = 0) = true from hm]; rfl, bt hb1 hb2⟩
end Go.Proofs.YteefodibpjgicaaGreat

/- Layer 8's statements: ParseMay. -/
namespace Go.Proofs.YteefodibpjgicaaGreat
open Go.RowKit
/-- What a document becomes. -/
theorem again_stable {l : List Nd} (h : M6.stableB l = true) : again l = l := by
  have h1 := h
  unfold M6.stableB at h1
  rw [Bool.and_eq_true] at h1
  have hm : M3.mayE false l = 0 := by simpa using h1.1
  unfold again
  rw [if_pos hm, M5.tree_text h]
theorem parsed_all (b : List UInt8) (hb : b.length ≤ 300) : ∃ L, M7.tree (M5.tokens (M1.right b)) = L ∧ M6.stableB L = true ∧ M3.mayE false L = 0 ∧ FitN L ∧ (M4.textB false L).length ≤ 1073741824 ∧ FitL (M5.tokens (M4.textB false L)) ∧ sz L ≤ 6000 := by
  refine ⟨_, rfl, ?_⟩
  have h1 := M7.parsed_stable (M1.isB_right b)
  have h2 := parsed_sz (M1.right b)
  have h3 := M1.right_len b
  generalize M7.tree (M5.tokens (M1.right b)) = L at *
  have h4 := text_len8 L false
  refine ⟨h1, ?_, fit_sz8 L (by omega), by omega, stable_fit h1 (by omega), by omega⟩
  unfold M6.stableB at h1
  rw [Bool.and_eq_true] at h1
  simpa using h1.1

set_option maxHeartbeats 4000000 in
set_option maxRecDepth 100000 in
theorem law08ParseMay (v : Value) (l : List UInt8) (w : World) (hg : Glo w) (hs : Sl w v (u8s l)) : Calls Tryz.prog 6 #[v] w fun e w' => e = .returned (.bool true) ∧ Below w.heap.size w w' := by
  have hF := Lib.hid (few08 v l w hs)
  have hlen : (l.take 300).length ≤ 300 := by rw [List.length_take]; omega
  obtain ⟨a, cap, rfl, hlc, hcm⟩ := hs.len8
  clear hs
  obtain ⟨wo, rfl⟩ : ∃ wo : World, wo = w := ⟨_, rfl⟩
  go_enter Tryz.func6, Tryz.ntmps6
  go_wp2_with fail
  refine hF.out.mono ?_
  rintro e w1 ⟨hw1, v1, rfl, hs⟩
  subst hw1
  generalize l.take 300 = b at *
  obtain ⟨a1, c1, rfl, -, -⟩ := hs.len8
  have hB := Lib.hid (parBytes _ b w1 hg hs (by omega))
  obtain ⟨L, hL, hst, hmay, hfit, htl, hft, -⟩ := parsed_all b hlen
  rw [hL] at hB
  clear hF hs
  go_wp2_with fail
  refine hB.out.mono ?_
  rintro e w2 ⟨v2, rfl, hr2, hb2⟩
  have hq2 := shr_lt hr2
  have hM := Lib.hid (ref03May (M3.weight L + 1) _ v2 L w2 (by omega) hfit (fun b h => h) hq2)
  have hSt := Lib.hid (fun W (hb : Below w2.heap.size w2 W) => ref06Stable (fun b => b < w2.heap.size) v2 L W hfit (fun b h => Nat.lt_of_lt_of_le h hb.size) (hq2.below (fun b h => h) hb))
  have hK := Lib.hid (fun W (hb : Below w2.heap.size w2 W) => parKeeps (fun b => b < w2.heap.size) v2 L W (hg.below (bt hb2 hb) (Nat.le_refl _)) (fun b h => Nat.lt_of_lt_of_le h hb.size) (hq2.below (fun b h => h) hb) hfit htl hft)
  rw [hmay] at hM
  rw [hst] at hSt
  rw [again_stable hst, M3.sameN_self] at hK
  obtain ⟨a2, c2, rfl⟩ := hq2.slice
  clear hr2 hq2 hB hL
  go_wp2_with fail
  refine hM.out.mono ?_
  rintro e w3 ⟨rfl, hb3⟩
  have hSt3 := Lib.hid (hSt.out _ hb3)
  clear hM hSt
  go_wp2_with fail
  refine hSt3.out.mono ?_
  rintro e w4 ⟨rfl, hb4⟩
  have hb24 := bt hb3 hb4
  have hK4 := Lib.hid (hK.out _ hb24)
  clear hSt3 hK
  go_wp2_with fail
  refine hK4.out.mono ?_
  rintro e w5 ⟨rfl, hb5⟩
  have hb15 := bt hb2 (bt hb24 hb5)
  have hLv := Lib.hid (lives08 w5 (hg.below hb15 (Nat.le_refl _)))
  clear hK4
  go_wp2_with fail
  refine hLv.out.mono ?_
  rintro e w6 ⟨rfl, hb6⟩
  have hb16 := bt hb15 hb6
  go_wp2_with fail
  go_ret
  exact ⟨rfl, hb16⟩
end Go.Proofs.YteefodibpjgicaaGreat
