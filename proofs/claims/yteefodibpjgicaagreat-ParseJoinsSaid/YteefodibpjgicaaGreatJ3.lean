/- Texts joined: Math6, Utf, Shelf3, Dom1, Math3b, Dom2, Dom3, Math3c, MapKit, Dom4, Dom5, Tell, Dom6, Dom7. -/
import Derived.BigCall
import Derived.Deep.QuietTactic
import Derived.BigQuiet
import Derived.Test.YteefodibpjgicaaGreatRows
import Derived.Shelf.Strings.Runes
import Derived.Shelf.Strings.IndexAny
import Derived.Shelf.Strings.AsciiSet
import Derived.Shelf.Strings.IndexAnyAll
import Derived.IntWalk
import Derived.Outline
import Derived.Lib.IndexAny
import Derived.WalkMore
import Derived.Maps.OwnSet
import Derived.Lib.Hide
import Derived.RangeFuncNested
import Derived.RangeFuncBound
import Derived.RangeFuncLeaves
import Derived.Shelf.Abstract
import Derived.OwnWalkIn
import Derived.TacticsInMore
import Derived.LoopNIn
import Derived.LoopIn
import Derived.Test.YteefodibpjgicaaGreatJ1
import Derived.Test.YteefodibpjgicaaGreatJ2
namespace Go.Proofs.YteefodibpjgicaaGreat
namespace M6
open M3 (isText okP withText cat merge apart mayE oneE nilB)
def closedL (o : List UInt8) : List (List UInt8) :=
  if o = [112] then [[98, 108, 111, 99, 107, 113, 117, 111, 116, 101], [100, 105, 118], [104, 49], [104, 50], [104, 114], [108, 105], [111, 108], [112], [112, 114, 101], [116, 97, 98, 108, 101], [117, 108]]
  else if o = [108, 105] then [[108, 105]]
  else if o = [100, 116] ∨ o = [100, 100] then [[100, 100], [100, 116]]
  else if o = [111, 112, 116, 105, 111, 110] then [[111, 112, 116, 105, 111, 110]]
  else if o = [116, 100] then [[116, 100], [116, 114]]
  else if o = [116, 114] then [[116, 114]] else []
def closesB (o b : List UInt8) : Bool := (closedL o).contains b
def endsHere (nm tx : List UInt8) : Bool := M5.endsL ([60, 47] ++ nm) (tx ++ ([60, 47] ++ nm ++ [62])) == some tx.length
def fitsB (p : ByteArray) (x : Nd) : Bool :=
  if M3.voidB p.data.toList then false else if M3.rawB p.data.toList then isText x && endsHere p.data.toList x.text.data.toList
  else !(decide (x.kind = 1) && closesB p.data.toList x.name.data.toList)
def hasB (w l : List UInt8) : Bool := decide (M5.findL w l < l.length)
def remB (x : Nd) : Bool := decide (x.kind = 3) && hasB [45, 45, 62] x.text.data.toList
def allB : List Nd → Bool
  | [] => true
  | .mk k n a t ks :: r => !remB (.mk k n a t ks) && (ks.all (fitsB n) && (allB ks && allB r))
termination_by l => SizeOf.sizeOf l
def oneS (x : Nd) : Bool := !remB x && (x.kids.all (fitsB x.name) && allB x.kids)
theorem allB_nil : allB [] = true := by rw [allB]
theorem allB_cons (x : Nd) (r : List Nd) : allB (x :: r) = (oneS x && allB r) := by
  cases x
  rw [allB]
  unfold oneS
  show (_ && (_ && (_ && _))) = ((_ && (_ && _)) && _)
  simp only [Bool.and_assoc]
  rfl
theorem allB_iff {l : List Nd} : allB l = true ↔ ∀ x ∈ l, oneS x = true := by
  induction l with
  | nil => rw [allB_nil]; exact ⟨fun _ x h => (nomatch h), fun _ => rfl⟩
  | cons x r ih => rw [allB_cons, Bool.and_eq_true, ih]; simp
def steadyQ : (Nd → Bool) → List Nd → List Nd
  | _, [] => []
  | q, .mk k n a t ks :: r =>
    (if (q (.mk k n a t ks) && !remB (.mk k n a t ks)) = true then [if k = 1 then .mk k n a t ((merge (steadyQ (fitsB n) ks)).filter (fitsB n)) else .mk k n a t ks] else []) ++ steadyQ q r
termination_by _ l => SizeOf.sizeOf l
theorem steadyQ_nil (q : Nd → Bool) : steadyQ q [] = [] := by rw [steadyQ]
def oneN (x : Nd) : Nd := if x.kind = 1 then .mk x.kind x.name x.attrs x.text ((merge (steadyQ (fitsB x.name) x.kids)).filter (fitsB x.name)) else x
theorem steadyQ_cons (q : Nd → Bool) (x : Nd) (r : List Nd) : steadyQ q (x :: r) = (if (q x && !remB x) = true then [oneN x] else []) ++ steadyQ q r := by
  cases x
  rw [steadyQ]
  rfl
def steady (l : List Nd) : List Nd := merge (steadyQ (fun _ => true) l)
theorem steadyQ_filter (q : Nd → Bool) (l : List Nd) : steadyQ q l = steadyQ (fun _ => true) (l.filter q) := by
  induction l with
  | nil => rw [List.filter_nil, steadyQ_nil, steadyQ_nil]
  | cons x r ih =>
    rw [steadyQ_cons, ih]
    cases hq : q x
    · rw [List.filter_cons_of_neg (by rw [hq]; exact Bool.false_ne_true)]
      rfl
    · rw [List.filter_cons_of_pos hq, steadyQ_cons]
theorem oneN_kind (x : Nd) : (oneN x).kind = x.kind := by unfold oneN; split <;> rfl
theorem oneN_name (x : Nd) : (oneN x).name = x.name := by unfold oneN; split <;> rfl
theorem steady_from (q : Nd → Bool) (l : List Nd) : ∀ y ∈ steadyQ q l, ∃ x ∈ l, q x = true ∧ remB x = false ∧ y = oneN x := by
  induction l with
  | nil => intro y hy; rw [steadyQ_nil] at hy; exact (nomatch hy)
  | cons x r ih =>
    intro y hy
    rw [steadyQ_cons] at hy
    rcases List.mem_append.1 hy with hy | hy
    · split at hy
      · rename_i hc
        rw [Bool.and_eq_true] at hc
        rw [List.mem_singleton] at hy
        exact ⟨x, by simp, hc.1, by simpa using hc.2, hy⟩
      · exact (nomatch hy)
    · obtain ⟨z, h1, h2⟩ := ih y hy
      exact ⟨z, by simp [h1], h2⟩
theorem ok_of_may (l : List Nd) : ∀ p, mayE p l = 0 → (∀ x ∈ l, okP x) ∧ apart p l = true := by
  induction l with
  | nil => intro p _; exact ⟨fun x h => (nomatch h), rfl⟩
  | cons x r ih =>
    intro p h
    rw [M3.mayE_cons] at h
    by_cases h1 : oneE x p = 0
    · rw [if_neg (by simpa using h1)] at h
      by_cases h2 : mayE false x.kids = 0
      · rw [if_neg (by simpa using h2)] at h
        obtain ⟨i1, i2⟩ := ih _ h
        have key : okP x ∧ (isText x = true → nilB x.text = false ∧ p = false) := by
          unfold okP
          cases ht : isText x
          · have hk : ¬ x.kind = 2 := by simpa [isText] using ht
            refine ⟨?_, fun h => by cases h⟩
            rw [if_neg Bool.false_ne_true]
            refine ⟨?_, h2⟩
            unfold oneE at h1 ⊢
            rw [if_neg hk] at h1 ⊢
            exact h1
          · have hk : x.kind = 2 := by simpa [isText] using ht
            unfold oneE at h1
            rw [if_neg (by omega), if_pos hk] at h1
            split at h1
            · rename_i hp
              split at h1
              · rename_i hb
                rw [Bool.and_eq_true] at hb
                refine ⟨by rw [if_pos rfl]; exact ⟨hp, hb.1⟩, fun _ => ?_⟩
                have := hb.2
                revert this
                cases nilB x.text <;> cases p <;> simp
              · exact absurd h1 (by decide)
            · exact absurd h1 (by decide)
        refine ⟨fun y hy => ?_, M3.apart_iff.2 ⟨key.2, i2⟩⟩
        rcases List.mem_cons.1 hy with rfl | hy
        · exact key.1
        · exact i1 y hy
      · rw [if_pos (by simpa using h2)] at h
        exact absurd h h2
    · rw [if_pos (by simpa using h1)] at h
      exact absurd h h1
theorem oneS_cat (x y : Nd) (hx : oneS x = true) (h1 : isText x = true) : oneS (withText x (cat x.text y.text)) = true := by
  unfold oneS at *
  rw [Bool.and_eq_true] at hx ⊢
  refine ⟨?_, ?_⟩
  · have hk : x.kind = 2 := by simpa [isText] using h1
    unfold remB
    rw [show (withText x (cat x.text y.text)).kind = x.kind from by cases x; rfl, hk]
    rfl
  · have := hx.2
    cases x
    exact this
theorem apart_texts (l : List Nd) (f : Nd → Bool) (h : ∀ x ∈ l, isText x = true) (ha : apart false l = true) : apart false (l.filter f) = true := by
  match l, h, ha with
  | [], _, _ => rfl
  | [x], _, ha =>
    cases hf : f x
    · rw [List.filter_cons_of_neg (by rw [hf]; exact Bool.false_ne_true)]; rfl
    · rw [List.filter_cons_of_pos hf]; exact ha
  | x :: y :: r, h, ha =>
    have h1 := (M3.apart_iff.1 ha).2
    have h2 := (M3.apart_iff.1 h1).1 (h y (by simp))
    rw [h x (by simp)] at h2
    exact absurd h2.2 (by decide)
theorem kids_ok (n : ByteArray) (ks : List Nd) (h : ∀ y ∈ steadyQ (fitsB n) ks, okP y ∧ oneS y = true) :
    mayE false ((merge (steadyQ (fitsB n) ks)).filter (fitsB n)) = 0 ∧ ((merge (steadyQ (fitsB n) ks)).filter (fitsB n)).all (fitsB n) = true ∧ allB ((merge (steadyQ (fitsB n) ks)).filter (fitsB n)) = true := by
  have hm := M3.merge_all (P := fun x => okP x ∧ oneS x = true) (fun x y hx hy h1 h2 => ⟨M3.okP_cat x y hx.1 hy.1 h1 h2, oneS_cat x y hx.2 h1⟩) _ h
  have hap : apart false ((merge (steadyQ (fitsB n) ks)).filter (fitsB n)) = true := by
    have ha := M3.merge_apart' (steadyQ (fitsB n) ks)
    cases hv : M3.voidB n.data.toList
    · cases hr : M3.rawB n.data.toList
      · have hf : ∀ x ∈ merge (steadyQ (fitsB n) ks), fitsB n x = true := by
          refine M3.merge_all (P := fun x => fitsB n x = true) (fun x y hx _ h1 _ => ?_) _ (fun y hy => ?_)
          · unfold fitsB
            have hk : x.kind = 2 := by simpa [isText] using h1
            rw [hv, hr, if_neg Bool.false_ne_true, if_neg Bool.false_ne_true, show (withText x (cat x.text y.text)).kind = x.kind from by cases x; rfl, hk]
            rfl
          · obtain ⟨x, _, hq, _, rfl⟩ := steady_from _ _ y hy
            unfold fitsB at *
            rw [hv, hr, if_neg Bool.false_ne_true, if_neg Bool.false_ne_true] at *
            rw [oneN_kind, oneN_name]
            exact hq
        rw [List.filter_eq_self.2 hf]
        exact ha
      · refine apart_texts _ _ ?_ ha
        refine M3.merge_all (P := fun x => isText x = true) (fun x y hx _ h1 _ => ?_) _ (fun y hy => ?_)
        · cases x; exact hx
        · obtain ⟨x, _, hq, _, rfl⟩ := steady_from _ _ y hy
          unfold fitsB at hq
          rw [hv, hr, if_neg Bool.false_ne_true, if_pos rfl, Bool.and_eq_true] at hq
          unfold isText at *
          rw [oneN_kind]
          exact hq.1
    · have : (merge (steadyQ (fitsB n) ks)).filter (fitsB n) = [] := by
        rw [List.filter_eq_nil_iff]
        intro x _
        unfold fitsB
        rw [hv, if_pos rfl]
        exact Bool.false_ne_true
      rw [this]
      rfl
  refine ⟨M3.may_of_ok _ _ (fun x hx => (hm x (List.mem_filter.1 hx).1).1) hap, ?_, allB_iff.2 (fun x hx => (hm x (List.mem_filter.1 hx).1).2)⟩
  rw [List.all_eq_true]
  intro x hx
  exact (List.mem_filter.1 hx).2
theorem steady_ok (l : List Nd) : ∀ q, (∀ x ∈ l, okP x) → ∀ y ∈ steadyQ q l, okP y ∧ oneS y = true := by
  induction l using Nd.ind with
  | h0 => intro q _ y hy; rw [steadyQ_nil] at hy; exact (nomatch hy)
  | h1 k n a t ks r ih1 ih2 =>
    intro q h y hy
    rw [steadyQ_cons] at hy
    rcases List.mem_append.1 hy with hy | hy
    · have hx := h (.mk k n a t ks) (by simp)
      split at hy
      · rename_i hc
        rw [Bool.and_eq_true] at hc
        rw [List.mem_singleton] at hy
        have hrem : remB (.mk k n a t ks) = false := by simpa using hc.2
        unfold oneN at hy
        by_cases hk : k = 1
        · rw [if_pos (show (Nd.mk k n a t ks).kind = 1 from hk)] at hy
          have ht : isText (.mk k n a t ks) = false := by unfold isText; rw [show (Nd.mk k n a t ks).kind = k from rfl, hk]; rfl
          unfold okP at hx
          rw [ht, if_neg Bool.false_ne_true] at hx
          obtain ⟨x1, x2⟩ := hx
          have hks := (ok_of_may ks false x2).1
          obtain ⟨g1, g2, g3⟩ := kids_ok n ks (ih1 (fitsB n) hks)
          have hy : y = Nd.mk k n a t ((merge (steadyQ (fitsB n) ks)).filter (fitsB n)) := hy
          rw [hy]
          generalize (merge (steadyQ (fitsB n) ks)).filter (fitsB n) = K at *
          refine ⟨?_, ?_⟩
          · unfold okP
            rw [show isText (Nd.mk k n a t K) = false from ht, if_neg Bool.false_ne_true]
            refine ⟨?_, g1⟩
            unfold oneE at x1 ⊢
            rw [if_pos (show (Nd.mk k n a t ks).kind = 1 from hk)] at x1
            rw [if_pos (show (Nd.mk k n a t K).kind = 1 from hk)]
            exact x1
          · unfold oneS
            rw [Bool.and_eq_true, Bool.and_eq_true]
            refine ⟨?_, g2, g3⟩
            unfold remB
            show (!(decide (k = 3) && _)) = true
            rw [hk]
            rfl
        · rw [if_neg (show ¬ (Nd.mk k n a t ks).kind = 1 from hk)] at hy
          rw [hy]
          refine ⟨hx, ?_⟩
          have hks : ks = [] := by
            unfold okP at hx
            cases ht : isText (.mk k n a t ks)
            · rw [ht, if_neg Bool.false_ne_true] at hx
              have h2 : ¬ (Nd.mk k n a t ks).kind = 2 := by simpa [isText] using ht
              have h1 := hx.1
              unfold oneE at h1
              rw [if_neg (show ¬ (Nd.mk k n a t ks).kind = 1 from hk), if_neg (show ¬ (Nd.mk k n a t ks).kind = 2 from h2)] at h1
              split at h1
              · split at h1
                · rename_i hp
                  exact M3.plain_kids hp
                · exact absurd h1 (by decide)
              · exact absurd h1 (by decide)
            · rw [ht, if_pos rfl] at hx
              exact M3.plain_kids hx.1
          unfold oneS
          rw [hrem, show (Nd.mk k n a t ks).kids = [] from hks, allB_nil]
          rfl
      · exact (nomatch hy)
    · exact ih2 q (fun x hx => h x (by simp [hx])) y hy
theorem steady_stable (l : List Nd) (h : ∀ x ∈ l, okP x) : mayE false (steady l) = 0 ∧ allB (steady l) = true := by
  have h1 := steady_ok l (fun _ => true) h
  refine ⟨M3.may_merge _ (fun x hx => (h1 x hx).1), allB_iff.2 ?_⟩
  exact M3.merge_all (P := fun x => oneS x = true) (fun x y hx _ ht _ => oneS_cat x y hx ht) _ (fun x hx => (h1 x hx).2)
def stableB (l : List Nd) : Bool := decide (mayE false l = 0) && allB l
theorem stable_may {l : List Nd} (h : mayE false l = 0) : stableB l = allB l := by
  unfold stableB
  rw [decide_eq_true h, Bool.true_and]
end M6
end Go.Proofs.YteefodibpjgicaaGreat

namespace Go.Proofs.YteefodibpjgicaaGreat
open Go.RowKit
theorem next_dec {P : Program} (w : World) (k : Nat) (s : ByteArray) (pos : Nat) (hk : w.heap[k]? = some (.stringIter s pos)) (h : pos < s.size) : ∀ ty,
    (Instr.next (.pointer (some ⟨k, 0, none⟩)) true ty).run P w =
      .ok (.tuple #[.bool true, .int .i64 pos, .int .i32 (M1.dec (s.data.toList.drop pos)).1]) (w.iterAt k s (pos + (M1.dec (s.data.toList.drop pos)).2)) := fun ty => by
  rw [Lib.run_next_any_at w k s pos ty hk h, M1.decode_eq]
theorem drop_ne {l : List UInt8} {k : Nat} (h : k < l.length) : l.drop k ≠ [] := by
  intro e
  have := congrArg List.length e
  simp at this
  omega
set_option maxHeartbeats 1000000 in
set_option maxRecDepth 100000 in
theorem utfRight (v : Value) (l : List UInt8) (w : World) (hs : Sl w v (u8s l)) (hl : l.length ≤ 1073741824) :
    Calls Tryz.prog 151 #[v] w fun e w' => e = .returned (.string ⟨(M1.right l).toArray⟩) ∧ Below w.heap.size w w' := by
  have hcv := (hs.below ((Below.refl _ w).alloc (Nat.le_refl _) (.cells #[.pointer none, .slice none 0 0] 120))).toString 22 9 5 Tryz.underlying22 Tryz.underlying5 Tryz.underlying9
  go_enter Tryz.func151, Tryz.ntmps151
  go_wp2
  go_loopw [4] (fun q wr => ∃ (pos : Nat) (p : Bool) (acc : List UInt8), q = .bool p ∧ Lib.IsBuilderF 120 5 w.heap.size w.heap.size (u8s acc) wr ∧ wr.heap[w.heap.size + 1]? = some (.stringIter ⟨l.toArray⟩ pos) ∧ Below w.heap.size w wr ∧ M1.right l = acc ++ M1.text (M1.mk p (M1.runes (l.drop pos))) ∧ acc.length ≤ 4 * pos ∧ pos ≤ l.length) (fun _ wr => l.length - wr.iterPos (w.heap.size + 1))
  case atStart =>
    refine ⟨0, false, [], rfl, (Lib.IsBuilderF.of (Lib.fresh_isBuilder 120 5 w)).alloc _, ?_, ((Below.refl _ w).alloc (Nat.le_refl _) _).alloc (by simp) _, rfl, by simp, by simp⟩
    have := World.iter_heap (w.alloc (.cells #[.pointer none, .slice none 0 0] 120)) ⟨l.toArray⟩ 0
    simpa using this
  case round =>
    obtain ⟨pos, p, acc, rfl, hI, hit, hbw, hacc0, hal, hpl⟩ := hrel
    have hsz : w.heap.size + 1 < wr.heap.size := (Array.getElem?_eq_some_iff.1 hit).1
    have hacc := Lib.hid hacc0
    clear hacc0 hcv
    by_cases hp : pos < l.length
    · have hne := drop_ne hp
      have hnx := next_dec (P := Tryz.prog) wr (w.heap.size + 1) ⟨l.toArray⟩ pos hit hp
      have hst0 := M1.runes_step _ hne
      have hw1 := M1.dec_pos _ hne
      have hw2 := M1.dec_le _ hne
      have hlt := M1.dec_lt (l.drop pos)
      rw [List.drop_drop] at hst0
      rw [List.length_drop] at hw2
      generalize (M1.dec (l.drop pos)).1 = r at *
      generalize (M1.dec (l.drop pos)).2 = wd at *
      have hst := Lib.hid hst0
      clear hst0
      have hI1 := hI.iterAt hit (pos + wd)
      have hbw1 := Lib.below_iterAt hbw (Nat.le_succ _) ⟨l.toArray⟩ (pos + wd)
      have hit1 := Lib.iterAt_heap wr (w.heap.size + 1) ⟨l.toArray⟩ pos (pos + wd) hit
      have hsz1 := Lib.iterAt_size wr (w.heap.size + 1) ⟨l.toArray⟩ (pos + wd)
      rw [← hsz1] at hsz
      clear hsz1 hI hbw
      generalize wr.iterAt (w.heap.size + 1) ⟨l.toArray⟩ (pos + wd) = w1 at *
      have hWR := fun (x : Int) (h1 : 0 ≤ x) (h2 : x < 1114112) => bWriteRune w.heap.size w.heap.size _ x (by omega) (by omega) _ hI1 (by rw [u8s_length]; omega) (by omega)
      have hWB := fun (x : Int) => bWriteByte w.heap.size w.heap.size _ x _ hI1 (by rw [u8s_length]; omega) (by omega)
      have hx0 : (0 : Int) ≤ (r : Int) := by omega
      have hx1 : (r : Int) < 1114112 := by omega
      clear hlt
      generalize (r : Int) = x at *
      have fin : ∀ (x p q) (add : List UInt8), M1.right l = acc ++ M1.text (M1.mk p (x :: M1.runes (l.drop (pos + wd)))) → M1.text (if x = 13 then [10] else if x = 10 ∧ p = true then [] else if x = 0 then [65533] else [x]) = add → decide (x = 13) = q → M1.right l = (acc ++ add) ++ M1.text (M1.mk q (M1.runes (l.drop (pos + wd)))) := by
        intro x p q add h1 h2 h3
        rw [h1, M1.mk, M1.text_append, h2, h3, List.append_assoc]
      have hfin := Lib.hid fin
      clear fin
      have hst := Lib.hid (show M1.right l = acc ++ M1.text (M1.mk p (x :: M1.runes (l.drop (pos + wd)))) by rw [hacc.out, hst.out])
      clear hacc
      by_cases h13 : x = 13
      · subst h13
        go_wp2_with (go_at_call 123; refine (hWB 10).mono ?_; rintro e W1 ⟨rfl, h1, b1, k1⟩)
        go_wp2
        go_roundw
        case rel =>
          exact ⟨pos + wd, true, acc ++ [10], rfl, by rw [u8s_append]; exact Or.inr h1, k1.iter hit1 (by omega), hbw1.trans b1, hfin.out _ _ _ _ hst.out rfl rfl, by simp; omega, by omega⟩
        case measure => rw [iterPos_of (k1.iter hit1 (by omega)), iterPos_of hit]; omega
      have h13b : (x == 13) = false := by simpa using h13
      by_cases h10 : x = 10
      · subst h10
        cases p
        · go_wp2_with (go_at_call 152; refine (hWR 10 (by omega) (by omega)).mono ?_; rintro e W1 ⟨rfl, h1, b1, k1⟩)
          go_wp2
          go_roundw
          case rel =>
            exact ⟨pos + wd, false, acc ++ [10], rfl, by rw [u8s_append]; exact Or.inr h1, k1.iter hit1 (by omega), hbw1.trans b1, hfin.out _ _ _ _ hst.out rfl rfl, by simp; omega, by omega⟩
          case measure => rw [iterPos_of (k1.iter hit1 (by omega)), iterPos_of hit]; omega
        · go_wp2
          go_roundw
          case rel =>
            exact ⟨pos + wd, false, acc, rfl, hI1, hit1, hbw1, by have := hfin.out _ _ _ [] hst.out rfl rfl; rwa [List.append_nil] at this, by omega, by omega⟩
          case measure => rw [iterPos_of hit1, iterPos_of hit]; omega
      have h10b : (x == 10) = false := by simpa using h10
      by_cases h0 : x = 0
      · subst h0
        go_wp2_with (go_at_call 152; refine (hWR 65533 (by omega) (by omega)).mono ?_; rintro e W1 ⟨rfl, h1, b1, k1⟩)
        go_wp2
        go_roundw
        case rel =>
          exact ⟨pos + wd, false, acc ++ [239, 191, 189], rfl, by rw [u8s_append]; exact Or.inr h1, k1.iter hit1 (by omega), hbw1.trans b1, hfin.out _ _ _ _ hst.out rfl rfl, by simp; omega, by omega⟩
        case measure => rw [iterPos_of (k1.iter hit1 (by omega)), iterPos_of hit]; omega
      have h0b : (x == 0) = false := by simpa using h0
      go_wp2_with (go_at_call 152; refine (hWR x (by omega) (by omega)).mono ?_; rintro e W1 ⟨rfl, h1, b1, k1⟩)
      go_wp2
      go_roundw
      case rel =>
        have hl4 := (Lib.encodeRuneZ_length x).2
        have e : (Lib.encodeRune x).length = (Lib.encodeRuneZ x).length := by simp [Lib.encodeRune]
        refine ⟨pos + wd, false, acc ++ Lib.encodeRune x, rfl, ?_, k1.iter hit1 (by omega), hbw1.trans b1, hfin.out _ _ _ _ hst.out ?_ (by simp [h13]), by simp; omega, by omega⟩
        · rw [u8s_append, show u8s (Lib.encodeRune x) = Lib.runeCells x from Lib.byteCells_encodeRune x]; exact Or.inr h1
        · rw [if_neg h13, if_neg (fun h => h10 h.1), if_neg h0]; simp [M1.text]
      case measure => rw [iterPos_of (k1.iter hit1 (by omega)), iterPos_of hit]; omega
    · have hnx := fun ty => Lib.run_next_end_at (P := Tryz.prog) wr (w.heap.size + 1) ⟨l.toArray⟩ pos ty hit hp
      go_wp2_with (go_at_call 107; refine (bString w.heap.size w.heap.size _ _ hI (by have := hbw.size; omega)).mono ?_; rintro e W1 ⟨rfl, _, b1, _⟩)
      go_wp2
      go_ret
      have h := hacc.out
      rw [List.drop_of_length_le (by omega), M1.runes_nil] at h
      rw [h]
      exact ⟨by simp [M1.mk, M1.text], hbw.trans b1⟩
set_option maxHeartbeats 1000000 in
theorem utfSmall (c : UInt8) (w : World) :
    Calls Tryz.prog 120 #[.int .u8 (c.toNat : Int)] w fun e w' => e = .returned (.int .u8 ((M1.small c).toNat : Int)) ∧ w' = w := by
  have h := M1.small_nat c
  have hc := c.toNat_lt
  generalize (M1.small c).toNat = m at *
  generalize c.toNat = n at *
  have hc : n < 256 := hc
  by_cases h0 : 65 ≤ n ∧ n ≤ 90
  · rw [if_pos h0] at h
    obtain ⟨h1, h2⟩ := h0
    subst h
    go_enter Tryz.func120, Tryz.ntmps120
    go_wp2
    go_ret
    refine ⟨?_, rfl⟩
    show Ending.returned (.int .u8 ((n : Int) - 65 + 97)) = _
    rw [show (n : Int) - 65 + 97 = ((n + 32 : Nat) : Int) by omega]
  · rw [if_neg h0] at h
    subst h
    go_enter Tryz.func120, Tryz.ntmps120
    go_wp2
    all_goals go_ret
    all_goals exact ⟨rfl, rfl⟩
def spelt3 (s : ByteArray) : Bool := s.data.toList.take 3 == [239, 191, 189]
set_option maxHeartbeats 1000000 in
set_option maxRecDepth 100000 in
theorem utfSpelt (s : ByteArray) (w : World) :
    Calls Tryz.prog 95 #[.string s] w fun e w' => e = .returned (.bool (spelt3 s)) ∧ w' = w := by
  go_enter Tryz.func95, Tryz.ntmps95
  go_wp2_with (go_at_call 104; refine (hasPrefix_any _ _ _).mono ?_; rintro e w1 ⟨rfl, rfl⟩)
  go_ret
  refine ⟨?_, rfl⟩
  rw [← Lib.hasPrefix_of_take]
  unfold spelt3
  by_cases h : s.data.toList.take 3 = [239, 191, 189]
  · have : 3 ≤ s.data.toList.length := by have := congrArg List.length h; rw [List.length_take] at this; simp at this; simp; omega
    simp [h]
    simpa using this
  · have : (s.data.toList.take 3 == [239, 191, 189]) = false := by simpa using h
    simp [this]
set_option maxHeartbeats 1000000 in
set_option maxRecDepth 100000 in
theorem utfPrefix (s p : ByteArray) (w : World) (hs : s.size ≤ 9223372036854775807) (hp : p.size ≤ 9223372036854775807) :
    Calls Tryz.prog 191 #[.string s, .string p] w fun e w' => e = .returned (.bool (M1.prefixB s.data.toList p.data.toList)) ∧ Below w.heap.size w w' := by
  by_cases hlen : s.size < p.size
  · have h := M1.prefixB_short s.data.toList p.data.toList hlen
    generalize M1.prefixB s.data.toList p.data.toList = q at *
    subst h
    go_enter Tryz.func191, Tryz.ntmps191
    go_wp2
    go_ret
    exact ⟨rfl, Below.refl _ _⟩
  · have hle : p.size ≤ s.size := by omega
    clear hlen
    go_enter Tryz.func191, Tryz.ntmps191
    go_wp2
    go_loopw [13] (fun i wr => ∃ k : Nat, k ≤ p.size ∧ i = .int .i64 k ∧ Below w.heap.size w wr ∧ Hid (M1.fold (s.data.toList.take k) = p.data.toList.take k)) (fun i _ => p.size - (intOf i).toNat)
    case atStart => exact ⟨0, by omega, rfl, Below.refl _ _, by simp [Hid, M1.fold]⟩
    case round =>
      obtain ⟨k, hk, rfl, hbw, hF⟩ := hrel
      by_cases hlt : k < p.size
      · have hls : k < s.size := by omega
        by_cases heq : M1.small s[k] = p[k]
        · have hb : (((M1.small s[k]).toNat : Int) != (p[k].toNat : Int)) = false := by rw [heq]; simp
          go_wp2
          go_quiet ((go_at_call 120; exact Calls.quiet_of_same (utfSmall _ _)))
          go_wp2
          go_roundw
          case rel =>
            refine ⟨k + 1, by omega, by go_num, below_drewN hbw _, ?_⟩
            show M1.fold _ = _
            have hF := hF.out
            have e1 : s.data.toList.take (k + 1) = s.data.toList.take k ++ [s[k]] := List.take_succ_eq_append_getElem (l := s.data.toList) hls
            have e2 : p.data.toList.take (k + 1) = p.data.toList.take k ++ [p[k]] := List.take_succ_eq_append_getElem (l := p.data.toList) hlt
            rw [e1, e2, ← hF, ← heq]
            simp [M1.fold]
          case measure => simp [intOf]; omega
        · have h := M1.prefixB_diff s.data.toList p.data.toList k hlt hls heq
          have hb : (((M1.small s[k]).toNat : Int) != (p[k].toNat : Int)) = true := by
            rw [bne_iff_ne]; intro h; exact heq (UInt8.toNat_inj.1 (by omega))
          have h := Lib.hid h
          clear heq
          go_wp2
          go_quiet ((go_at_call 120; exact Calls.quiet_of_same (utfSmall _ _)))
          go_wp2
          go_ret
          exact ⟨by rw [h.out]; rfl, below_drewN hbw _⟩
      · obtain rfl : k = p.size := by omega
        have hF := hF.out
        rw [List.take_of_length_le (l := p.data.toList) (show p.data.toList.length ≤ p.size from Nat.le_refl _)] at hF
        have h := M1.prefixB_yes s.data.toList p.data.toList hle hF
        have h := Lib.hid h
        clear hF
        go_wp2
        go_ret
        exact ⟨by rw [h.out]; rfl, hbw⟩
set_option maxHeartbeats 1000000 in
set_option maxRecDepth 100000 in
theorem utfFold (s : ByteArray) (w : World) (hs : s.size ≤ 140737488355328) :
    Calls Tryz.prog 111 #[.string s] w fun e w' => e = .returned (.string ⟨(M1.fold s.data.toList).toArray⟩) ∧ Below w.heap.size w w' := by
  have hcv := Lib.run_convert_string_bytes (P := Tryz.prog) w 9 22 5 s Tryz.underlying9 Tryz.underlying22 Tryz.underlying5
  have hcap := grownCap_ge w s.size 0 5
  have hcap2 := grownCap_le_maxLen w s.size 0 5 (by unfold maxLen; omega)
  unfold maxLen at hcap2
  have hM := MutRow.bytes w 5 s
  have hB := below_bytesWorld w 5 s
  have hz := Lib.bytesWorld_size w 5 s
  generalize grownCap w s.size 0 5 = cap at *
  generalize Lib.bytesWorld w 5 s = w0 at *
  have hz := Lib.hid hz
  go_enter Tryz.func111, Tryz.ntmps111
  go_wp2
  go_loopw [10] (fun i wr => ∃ k : Nat, k ≤ s.size ∧ i = .int .i64 k ∧ Below w.heap.size w wr ∧ MutRow wr w.heap.size (u8s (M1.foldTo s.data.toList k))) (fun i _ => s.size - (intOf i).toNat)
  case atStart => exact ⟨0, by omega, rfl, hB, by rw [M1.foldTo_zero]; exact hM⟩
  case round =>
    obtain ⟨k, hk, rfl, hbw, hR⟩ := hrel
    have hlen : (u8s (M1.foldTo s.data.toList k)).length ≤ s.size ∧ s.size ≤ (u8s (M1.foldTo s.data.toList k)).length := by
      have : s.data.toList.length = s.size := rfl
      rw [u8s_length, M1.foldTo_length]
      omega
    by_cases hlt : k < s.size
    · have hls : k < s.data.toList.length := hlt
      obtain ⟨hc, hf⟩ := hR.at (u8s_get _ _ _ (M1.foldTo_get _ k hls))
      have hset := hR.set (k := k) (by omega) (.int .u8 ((M1.small s.data.toList[k]).toNat : Int))
      rw [u8s_set, M1.foldTo_set _ k hls] at hset
      clear hR hlen
      generalize s.data.toList[k] = c at *
      go_wp2_with (go_at_call 120; refine (utfSmall _ _).mono ?_; rintro e w1 ⟨rfl, rfl⟩)
      go_roundw
      case rel => exact ⟨k + 1, by omega, by go_num, hbw.setCell (Nat.le_refl _) _, hset⟩
      case measure => simp [intOf]; omega
    · obtain rfl : k = s.size := by omega
      rw [M1.foldTo_all _ _ (show s.data.toList.length ≤ s.size from Nat.le_refl _)] at hR
      have hfl : (u8s (M1.fold s.data.toList)).length = s.size := by rw [u8s_length]; simp [M1.fold]
      have hsl := hR.sl (cap := cap) (by omega) hcap2
      rw [hfl] at hsl
      have hcv2 := hsl.toString 22 9 5 Tryz.underlying22 Tryz.underlying5 Tryz.underlying9
      clear hfl
      go_wp2
      go_ret
      exact ⟨rfl, hbw⟩
set_option maxHeartbeats 1000000 in
set_option maxRecDepth 100000 in
theorem utfIs (s : ByteArray) (w : World) (hs : s.size ≤ 9223372036854775807) :
    Calls Tryz.prog 77 #[.string s] w fun e w' => e = .returned (.bool (M1.isB s.data.toList)) ∧ Below w.heap.size w w' := by
  go_enter Tryz.func77, Tryz.ntmps77
  go_wp2
  go_loopw [] (fun wr => ∃ pos : Nat, pos ≤ s.size ∧ wr.heap[w.heap.size]? = some (.stringIter s pos) ∧ Below w.heap.size w wr ∧ Hid (M1.isB s.data.toList = M1.isB (s.data.toList.drop pos))) (fun wr => s.size - wr.iterPos w.heap.size)
  case atStart => exact ⟨0, by omega, World.iter_heap w s 0, (Below.refl _ w).alloc (Nat.le_refl _) _, rfl⟩
  case round =>
    obtain ⟨pos, hpl, hit, hbw, hB⟩ := hrel
    have hsz : w.heap.size < wr.heap.size := (Array.getElem?_eq_some_iff.1 hit).1
    by_cases hp : pos < s.size
    · have hp' : pos < s.data.toList.length := hp
      have hne := drop_ne hp'
      have hnx := next_dec (P := Tryz.prog) wr w.heap.size s pos hit hp
      have hst0 := M1.isB_step _ hne
      have hw1 := M1.dec_pos _ hne
      have hw2 := M1.dec_le _ hne
      have hlt := M1.dec_lt (s.data.toList.drop pos)
      rw [List.drop_drop] at hst0
      rw [List.length_drop, show s.data.toList.length = s.size from rfl] at hw2
      rw [← hB.out] at hst0
      generalize (M1.dec (s.data.toList.drop pos)).1 = r at *
      generalize (M1.dec (s.data.toList.drop pos)).2 = wd at *
      have hbw1 := Lib.below_iterAt hbw (Nat.le_refl _) s (pos + wd)
      have hit1 := Lib.iterAt_heap wr w.heap.size s pos (pos + wd) hit
      generalize wr.iterAt w.heap.size s (pos + wd) = w1 at *
      have hst := Lib.hid hst0
      clear hst0 hne hB
      by_cases h0 : r = 0
      · subst h0
        go_wp2
        go_ret
        exact ⟨by rw [hst.out]; rfl, hbw1⟩
      by_cases h13 : r = 13
      · subst h13
        go_wp2
        go_ret
        exact ⟨by rw [hst.out]; rfl, hbw1⟩
      have h0b : ((r : Int) == 0) = false := by simpa using h0
      have h13b : ((r : Int) == 13) = false := by simp; omega
      by_cases hf : r = 65533
      · subst hf
        have hq : ∃ q, spelt3 (s.extract pos s.size) = q ∧ Hid (M1.isB s.data.toList = (q && M1.isB (s.data.toList.drop (pos + wd)))) := by
          refine ⟨_, rfl, ?_⟩
          show _ = _
          rw [hst.out, spelt3, extract_end]
          simp
        obtain ⟨q, hq1, hq2⟩ := hq
        cases q
        · go_wp2_with (go_at_call 95; refine (utfSpelt _ _).mono ?_; rintro e w2 ⟨rfl, rfl⟩)
          go_ret
          exact ⟨by rw [hq2.out]; rfl, hbw1⟩
        · go_wp2_with (go_at_call 95; refine (utfSpelt _ _).mono ?_; rintro e w2 ⟨rfl, rfl⟩)
          go_roundw
          case rel => exact ⟨pos + wd, by omega, hit1, hbw1, hq2⟩
          case measure => rw [iterPos_of hit1, iterPos_of hit]; omega
      · have hfb : ((r : Int) == 65533) = false := by simp; omega
        have hB : Hid (M1.isB s.data.toList = M1.isB (s.data.toList.drop (pos + wd))) := by
          show _ = _
          rw [hst.out]; simp [h0, h13, hf]
        go_wp2
        go_roundw
        case rel => exact ⟨pos + wd, by omega, hit1, hbw1, hB⟩
        case measure => rw [iterPos_of hit1, iterPos_of hit]; omega
    · have hnx := fun ty => Lib.run_next_end_at (P := Tryz.prog) wr w.heap.size s pos ty hit hp
      go_wp2
      go_ret
      have h := hB.out
      rw [List.drop_of_length_le (show s.data.toList.length ≤ pos from by have : s.data.toList.length = s.size := rfl; omega), M1.isB_nil] at h
      exact ⟨by rw [h]; rfl, hbw⟩
end Go.Proofs.YteefodibpjgicaaGreat

namespace Go.Proofs.YteefodibpjgicaaGreat
open Go.Shelf
def Tryz.lays152_ren : Go.Shelf.Ren := ⟨fun | 152 => 124 | 137 => 128 | 119 => 129 | 224 => 130 | 225 => 131 | 217 => 132 | 266 => 133 | n => n, fun | 9 => 9 | 21 => 21 | 3 => 3 | 4 => 4 | 5 => 5 | 0 => 0 | 46 => 143 | n => n, fun | n => n⟩
theorem Tryz.lays152 : Go.Proofs.Lays.n152 Tryz.prog Tryz.lays152_ren := {
  mixed := by kernel_rfl
  f119 := Tryz.func129.trans (congrArg some (by kernel_rfl))
  f137 := Tryz.func128.trans (congrArg some (by kernel_rfl))
  f152 := Tryz.func124.trans (congrArg some (by kernel_rfl))
  f217 := Tryz.func132.trans (congrArg some (by kernel_rfl))
  f224 := Tryz.func130.trans (congrArg some (by kernel_rfl))
  f225 := Tryz.func131.trans (congrArg some (by kernel_rfl))
  f266 := Tryz.func133.trans (congrArg some (by kernel_rfl))
  t0 := Tryz.underlying0
  a0 := Tryz.isAgg0
  z0 := Tryz.sizeOf0
  v0 := Tryz.zeroValue0
  t3 := Tryz.underlying3
  a3 := Tryz.isAgg3
  z3 := Tryz.sizeOf3
  v3 := Tryz.zeroValue3
  t4 := Tryz.underlying4
  a4 := Tryz.isAgg4
  z4 := Tryz.sizeOf4
  v4 := Tryz.zeroValue4
  t5 := Tryz.underlying5
  a5 := Tryz.isAgg5
  z5 := Tryz.sizeOf5
  v5 := Tryz.zeroValue5
  t9 := Tryz.underlying9
  a9 := Tryz.isAgg9
  z9 := Tryz.sizeOf9
  v9 := Tryz.zeroValue9
  t21 := Tryz.underlying21
  a21 := Tryz.isAgg21
  z21 := Tryz.sizeOf21
  v21 := Tryz.zeroValue21
  t46 := Tryz.underlying143
  a46 := Tryz.isAgg143
  z46 := Tryz.sizeOf143
  v46 := Tryz.zeroValue143 }
open Go.RowKit Go.Lib in
theorem Tryz.strings_IndexRune_ascii (s : ByteArray) (r : Int) (w : World) (h0 : 0 ≤ r) (h1 : r < 128) :
    Calls Tryz.prog 124 #[.string s, .int .i32 r] w fun e w' => e = .returned (.int .i64 (Lib.indexByte s.data.toList r.toNat.toUInt8)) ∧ w' = w := Any.strings_IndexRune_ascii Tryz.lays152 s r w h0 h1
def Tryz.lays153_ren : Go.Shelf.Ren := ⟨fun | 153 => 121 | 152 => 124 | 226 => 125 | 227 => 126 | 228 => 127 | 137 => 128 | 119 => 129 | 224 => 130 | 225 => 131 | 217 => 132 | 266 => 133 | n => n, fun | 9 => 9 | 3 => 3 | 4 => 4 | 5 => 5 | 21 => 21 | 117 => 138 | 116 => 137 | 0 => 0 | 46 => 143 | 124 => 144 | n => n, fun | n => n⟩
theorem Tryz.lays153 : Go.Proofs.Lays.n153 Tryz.prog Tryz.lays153_ren := {
  mixed := by kernel_rfl
  f119 := Tryz.func129.trans (congrArg some (by kernel_rfl))
  f137 := Tryz.func128.trans (congrArg some (by kernel_rfl))
  f152 := Tryz.func124.trans (congrArg some (by kernel_rfl))
  f153 := Tryz.func121.trans (congrArg some (by kernel_rfl))
  f217 := Tryz.func132.trans (congrArg some (by kernel_rfl))
  f224 := Tryz.func130.trans (congrArg some (by kernel_rfl))
  f225 := Tryz.func131.trans (congrArg some (by kernel_rfl))
  f226 := Tryz.func125.trans (congrArg some (by kernel_rfl))
  f227 := Tryz.func126.trans (congrArg some (by kernel_rfl))
  f228 := Tryz.func127.trans (congrArg some (by kernel_rfl))
  f266 := Tryz.func133.trans (congrArg some (by kernel_rfl))
  t0 := Tryz.underlying0
  a0 := Tryz.isAgg0
  z0 := Tryz.sizeOf0
  v0 := Tryz.zeroValue0
  t3 := Tryz.underlying3
  a3 := Tryz.isAgg3
  z3 := Tryz.sizeOf3
  v3 := Tryz.zeroValue3
  t4 := Tryz.underlying4
  a4 := Tryz.isAgg4
  z4 := Tryz.sizeOf4
  v4 := Tryz.zeroValue4
  t5 := Tryz.underlying5
  a5 := Tryz.isAgg5
  z5 := Tryz.sizeOf5
  v5 := Tryz.zeroValue5
  t9 := Tryz.underlying9
  a9 := Tryz.isAgg9
  z9 := Tryz.sizeOf9
  v9 := Tryz.zeroValue9
  t21 := Tryz.underlying21
  a21 := Tryz.isAgg21
  z21 := Tryz.sizeOf21
  v21 := Tryz.zeroValue21
  t46 := Tryz.underlying143
  a46 := Tryz.isAgg143
  z46 := Tryz.sizeOf143
  v46 := Tryz.zeroValue143
  t116 := Tryz.underlying137
  a116 := Tryz.isAgg137
  z116 := Tryz.sizeOf137
  t117 := Tryz.underlying138
  a117 := Tryz.isAgg138
  z117 := Tryz.sizeOf138
  v117 := Tryz.zeroValue138
  t124 := Tryz.underlying144
  a124 := Tryz.isAgg144
  z124 := Tryz.sizeOf144
  v124 := Tryz.zeroValue144 }
open Go.RowKit Go.Lib in
theorem Tryz.strings_IndexAny_long (hv116 : ∀ w, (zeroValue 137).run Tryz.prog w = .ok (.agg (Array.replicate 256 (.bool false))) w) (s chars : ByteArray) (w : World) (h2 : 2 ≤ chars.size) (h8 : 8 < s.size) (hs : s.size < 4294967281) (hcs : chars.size < 4294967281) (hascii : ∀ (j : Nat) b, chars.data.toList[j]? = some b → b.toNat < 128) :
    Calls Tryz.prog 121 #[.string s, .string chars] w fun e w' => e = .returned (.int .i64 (Lib.indexAny s.data.toList chars.data.toList)) ∧ w' = ((w.alloc (.cells (Lib.setCells chars.data.toList) 137)).alloc (.cells (Lib.setCells chars.data.toList) 137)) := Any.strings_IndexAny_long Tryz.lays153 hv116 (by kernel_rfl) s chars w h2 h8 hs hcs hascii
end Go.Proofs.YteefodibpjgicaaGreat

namespace Go.Proofs.YteefodibpjgicaaGreat
open Go.RowKit
set_option maxHeartbeats 1000000 in
theorem domVoid (s : ByteArray) (w : World) : Calls Tryz.prog 116 #[.string s] w fun e w' => e = .returned (.bool (M3.voidB s.data.toList)) ∧ w' = w := by
  rw [← Lib.toList_data]
  go_enter Tryz.func116, Tryz.ntmps116
  go_wp2
  all_goals (go_ret; refine ⟨?_, rfl⟩; unfold M3.voidB; simp_all)
set_option maxHeartbeats 1000000 in
theorem ref03Void (s : ByteArray) (w : World) : Calls Tryz.prog 62 #[.string s] w fun e w' => e = .returned (.bool (M3.voidB s.data.toList)) ∧ w' = w := by
  rw [← Lib.toList_data]
  go_enter Tryz.func62, Tryz.ntmps62
  go_wp2
  all_goals (go_ret; refine ⟨?_, rfl⟩; unfold M3.voidB; simp_all)
set_option maxHeartbeats 1000000 in
theorem domRaw (s : ByteArray) (w : World) : Calls Tryz.prog 117 #[.string s] w fun e w' => e = .returned (.bool (M3.rawB s.data.toList)) ∧ w' = w := by
  rw [← Lib.toList_data]
  go_enter Tryz.func117, Tryz.ntmps117
  go_wp2
  all_goals (go_ret; refine ⟨?_, rfl⟩; unfold M3.rawB; simp_all)
set_option maxHeartbeats 1000000 in
theorem ref03Raw (s : ByteArray) (w : World) : Calls Tryz.prog 64 #[.string s] w fun e w' => e = .returned (.bool (M3.rawB s.data.toList)) ∧ w' = w := by
  rw [← Lib.toList_data]
  go_enter Tryz.func64, Tryz.ntmps64
  go_wp2
  all_goals (go_ret; refine ⟨?_, rfl⟩; unfold M3.rawB; simp_all)
set_option maxHeartbeats 1000000 in
theorem ref03Small (c : UInt8) (w : World) : Calls Tryz.prog 92 #[.int .u8 (c.toNat : Int)] w fun e w' => e = .returned (.bool (M3.smallB c)) ∧ w' = w := by
  by_cases h1 : 97 ≤ c.toNat
  · go_enter Tryz.func92, Tryz.ntmps92
    go_wp2
    go_ret
    exact ⟨by simp [M3.smallB, h1]; omega, rfl⟩
  · go_enter Tryz.func92, Tryz.ntmps92
    go_wp2
    all_goals (go_ret; exact ⟨by simp [M3.smallB, h1], rfl⟩)
set_option maxHeartbeats 4000000 in
set_option maxRecDepth 100000 in
theorem domNamed (s : ByteArray) (w : World) (hs : s.size ≤ 9223372036854775807) :
    Calls Tryz.prog 93 #[.string s] w fun e w' => e = .returned (.bool (M3.namedB s.data.toList)) ∧ Below w.heap.size w w' := by
  have hsz : s.size = s.data.toList.length := rfl
  have hemp : s.toList = s.data.toList := Lib.toList_data s
  generalize hl : s.data.toList = l at *
  go_enter Tryz.func93, Tryz.ntmps93
  go_wp2
  go_loopw [] (fun wr => ∃ p : Nat, p ≤ l.length ∧ wr.heap[w.heap.size]? = some (.stringIter s p) ∧ Below w.heap.size w wr ∧ Hid (M3.namedB l = M3.tailB l p)) (fun wr => l.length - wr.iterPos w.heap.size)
  case atStart => exact ⟨0, by omega, World.iter_heap w s 0, (Below.refl _ w).alloc (Nat.le_refl _) _, rfl⟩
  case round =>
    obtain ⟨p, hpl, hit, hbw, hB⟩ := hrel
    have hsz0 : w.heap.size < wr.heap.size := (Array.getElem?_eq_some_iff.1 hit).1
    by_cases hp : p < l.length
    · have hdr : l.drop p = l[p] :: l.drop (p + 1) := List.drop_eq_getElem_cons hp
      have hnx := next_dec (P := Tryz.prog) wr w.heap.size s p hit (by omega)
      rw [hl, hdr] at hnx
      have hlo := M2.dec_lo l[p] (l.drop (p + 1))
      have hhi := M2.dec_hi l[p] (l.drop (p + 1))
      have hlt := M1.dec_lt (l[p] :: l.drop (p + 1))
      have hno := Lib.hid (M3.tail_no hp)
      have hyes := Lib.hid (M3.tail_yes hp)
      generalize l[p] = c at *
      generalize M1.dec (c :: l.drop (p + 1)) = rw_ at *
      obtain ⟨r, wd⟩ := rw_
      simp only at hnx hhi hlt
      have hbw1 := Lib.below_iterAt hbw (Nat.le_refl _) s (p + wd)
      have hit1 := Lib.iterAt_heap wr w.heap.size s p (p + wd) hit
      generalize wr.iterAt w.heap.size s (p + wd) = w1 at *
      clear hdr
      rcases Nat.lt_or_ge c.toNat 128 with h1 | h1
      · have hrw := hlo h1
        simp only [Prod.mk.injEq] at hrw
        obtain ⟨rfl, rfl⟩ := hrw
        clear hlo hhi
        by_cases hok : M3.okR p (c.toNat : Int)
        · replace hyes := Lib.hid (hB.out.trans (hyes.out hok))
          clear hno hB
          have hok' := hok
          unfold M3.okR at hok'
          clear hok
          generalize c.toNat = r at *
          rcases hok' with ⟨h2, h3⟩ | ⟨h2, h3 | ⟨h3, h4⟩⟩
          · go_wp2
            go_roundw
            case rel => exact ⟨p + 1, by omega, hit1, hbw1, hyes⟩
            case measure => rw [iterPos_of hit1, iterPos_of hit]; omega
          · have h5 : ((p : Int) == 0) = false := by simpa using h2
            obtain rfl : r = 45 := by omega
            go_wp2
            go_roundw
            case rel => exact ⟨p + 1, by omega, hit1, hbw1, hyes⟩
            case measure => rw [iterPos_of hit1, iterPos_of hit]; omega
          · have h5 : ((p : Int) == 0) = false := by simpa using h2
            go_wp2
            go_roundw
            case rel => exact ⟨p + 1, by omega, hit1, hbw1, hyes⟩
            case measure => rw [iterPos_of hit1, iterPos_of hit]; omega
        · replace hno := Lib.hid (hB.out.trans (hno.out hok))
          clear hyes hB
          by_cases h2 : p = 0
          · subst h2
            have hok' : (c.toNat : Int) < 97 ∨ 122 < (c.toNat : Int) := by unfold M3.okR at hok; omega
            clear hok
            generalize c.toNat = r at *
            rcases hok' with h3 | h3
            · go_wp2
              go_ret
              exact ⟨by rw [hno.out]; rfl, hbw1⟩
            · have hd : decide ((r : Int) ≤ 122) = false := decide_eq_false (by omega)
              go_wp2
              go_ret
              exact ⟨by rw [hno.out]; rfl, hbw1⟩
          · have h5 : ((p : Int) == 0) = false := by simpa using h2
            have hok' : (c.toNat : Int) < 45 ∨ (45 < (c.toNat : Int) ∧ (c.toNat : Int) < 48) ∨ (57 < (c.toNat : Int) ∧ (c.toNat : Int) < 97) ∨ 122 < (c.toNat : Int) := by unfold M3.okR at hok; omega
            have h6 : ((c.toNat : Int) == 45) = false := by unfold M3.okR at hok; simp; omega
            clear hok h2
            generalize c.toNat = r at *
            rcases hok' with h3 | ⟨h3, h4⟩ | ⟨h3, h4⟩ | h3
            · go_wp2
              go_ret
              exact ⟨by rw [hno.out]; rfl, hbw1⟩
            · go_wp2
              go_ret
              exact ⟨by rw [hno.out]; rfl, hbw1⟩
            · go_wp2
              go_ret
              exact ⟨by rw [hno.out]; rfl, hbw1⟩
            · have hd : decide ((r : Int) ≤ 122) = false := decide_eq_false (by omega)
              have hd2 : decide ((r : Int) < 48) = false := decide_eq_false (by omega)
              have hd3 : decide (57 < (r : Int)) = true := decide_eq_true (by omega)
              go_wp2
              go_ret
              exact ⟨by rw [hno.out]; rfl, hbw1⟩
      · replace hno := Lib.hid (hB.out.trans (hno.out (by unfold M3.okR; omega)))
        replace hhi := hhi h1
        clear hyes hB hlo h1
        have hd : decide ((r : Int) ≤ 122) = false := decide_eq_false (by omega)
        have hd2 : decide ((r : Int) < 48) = false := decide_eq_false (by omega)
        have hd3 : decide (57 < (r : Int)) = true := decide_eq_true (by omega)
        by_cases h2 : p = 0
        · subst h2
          go_wp2
          go_ret
          exact ⟨by rw [hno.out]; rfl, hbw1⟩
        · have h5 : ((p : Int) == 0) = false := by simpa using h2
          have h6 : ((r : Int) == 45) = false := by simp; omega
          clear h2
          go_wp2
          go_ret
          exact ⟨by rw [hno.out]; rfl, hbw1⟩
    · have hnx := fun ty => Lib.run_next_end_at (P := Tryz.prog) wr w.heap.size s p ty hit (by omega)
      have hpe : p = l.length := by omega
      subst hpe
      replace hB := Lib.hid (hB.out.trans M3.tail_end)
      cases l with
      | nil =>
        go_wp2
        go_ret
        exact ⟨by rw [hB.out]; rfl, hbw⟩
      | cons c r =>
        go_wp2
        go_ret
        exact ⟨by rw [hB.out]; rfl, hbw⟩
end Go.Proofs.YteefodibpjgicaaGreat

namespace Go.Proofs.YteefodibpjgicaaGreat
namespace M3
abbrev C7 : List UInt8 := [9, 10, 12, 32, 47, 62, 61]
theorem badB_eq (c : UInt8) : badB c = C7.contains c := by
  have e : ∀ (n : Nat) (h : n < 256), (c.toNat == n) = (c == n.toUInt8) := by
    intro n h
    rw [Bool.eq_iff_iff, beq_iff_eq, beq_iff_eq]
    constructor
    · intro h1; rw [← h1]; simp
    · rintro rfl; exact M1.toNat_u8 n h
  unfold badB
  rw [e 9 (by decide), e 10 (by decide), e 12 (by decide), e 32 (by decide), e 47 (by decide), e 62 (by decide), e 61 (by decide)]
  simp only [C7, List.contains_cons, List.contains_nil, Bool.or_false, Bool.or_assoc]
  rfl
theorem badB_high (c : UInt8) (h : 128 ≤ c.toNat) : badB c = false := by
  unfold badB
  simp
  omega
theorem high_skip (c : UInt8) (t : List UInt8) (h : 128 ≤ c.toNat) : ∀ x ∈ (c :: t).take (M1.dec (c :: t)).2, 128 ≤ x.toNat := by
  have hd := M2.dec_hi c t h
  rcases M1.dec_cases (c :: t) (by simp) with ⟨h1, h2, h3⟩ | ⟨h1, _⟩
  · intro x hx
    rw [h2, h3] at hx
    rw [List.take_left'] at hx
    · exact M2.enc_high _ h1 (by omega) x hx
    · rw [← h3, ← h2]
  · rw [h1]
    intro x hx
    simp at hx
    subst hx; exact h
theorem any_skip (c : UInt8) (t : List UInt8) (h : 128 ≤ c.toNat) : (c :: t).any badB = ((c :: t).drop (M1.dec (c :: t)).2).any badB := by
  conv => lhs; rw [← List.take_append_drop (M1.dec (c :: t)).2 (c :: t), List.any_append]
  have : ((c :: t).take (M1.dec (c :: t)).2).any badB = false := by
    rw [List.any_eq_false]
    intro x hx
    rw [badB_high x (high_skip c t h x hx)]
    simp
  rw [this, Bool.false_or]
theorem indexAny_bad (l : List UInt8) : decide (0 ≤ Lib.indexAny l C7) = l.any badB := by
  induction l with
  | nil => rfl
  | cons c r ih =>
    have hge := Lib.indexAny_ge C7 r
    rw [Lib.indexAny, List.any_cons, badB_eq, ← ih]
    cases hc : C7.contains c
    · simp only [Bool.false_or, Bool.false_eq_true, if_false, beq_iff_eq]
      split
      · rename_i h; rw [h]
      · congr 1; exact propext (by omega)
    · simp
theorem small_cap (c : UInt8) : (M1.small c == c) = !capB c := by
  have h := M1.small_nat c
  by_cases hc : 65 ≤ c.toNat ∧ c.toNat ≤ 90
  · rw [if_pos hc] at h
    have h1 : capB c = true := decide_eq_true hc
    rw [h1]
    simp only [Bool.not_true, beq_eq_false_iff_ne, ne_eq]
    intro e; rw [e] at h; omega
  · have h1 : capB c = false := decide_eq_false hc
    rw [h1]
    simp only [Bool.not_false, beq_iff_eq]
    unfold M1.small
    rw [if_neg hc]
theorem fold_same (l : List UInt8) : (M1.fold l == l) = !(l.any capB) := by
  induction l with
  | nil => rfl
  | cons c r ih =>
    show (M1.small c :: M1.fold r == c :: r) = _
    rw [List.cons_beq_cons, ih, small_cap, List.any_cons, Bool.not_or]
end M3
end Go.Proofs.YteefodibpjgicaaGreat

namespace Go.Proofs.YteefodibpjgicaaGreat
open Go.RowKit
abbrev c7 : ByteArray := ⟨#[9, 10, 12, 32, 47, 62, 61]⟩
theorem encode_high (r : Int) (h0 : 128 ≤ r) (h1 : r ≤ 1114111) (hs : r < 55296 ∨ 57343 < r) :
    (∃ a b : UInt8, Utf8.encode r = ⟨#[a, b]⟩ ∧ 128 ≤ b.toNat) ∨ (∃ a b c : UInt8, Utf8.encode r = ⟨#[a, b, c]⟩ ∧ 128 ≤ c.toNat) ∨ (∃ a b c d : UInt8, Utf8.encode r = ⟨#[a, b, c, d]⟩ ∧ 128 ≤ d.toNat) := by
  have hv : Utf8.valid r = true := by rw [M1.valid_iff]; exact decide_eq_true (by unfold M1.okRune; omega)
  unfold Utf8.encode
  simp only [hv, if_true]
  obtain ⟨n, rfl⟩ := Int.eq_ofNat_of_zero_le (show 0 ≤ r by omega)
  simp only [Int.toNat_natCast]
  rw [if_neg (by omega)]
  split
  · exact Or.inl ⟨_, _, rfl, by rw [M1.toNat_u8 _ (by omega)]; omega⟩
  split
  · exact Or.inr (Or.inl ⟨_, _, _, rfl, by rw [M1.toNat_u8 _ (by omega)]; omega⟩)
  · exact Or.inr (Or.inr ⟨_, _, _, _, rfl, by rw [M1.toNat_u8 _ (by omega)]; omega⟩)
set_option maxHeartbeats 1000000 in
theorem validRune (r : Int) (w : World) (h0 : 128 ≤ r) (h1 : r ≤ 1114111) (hs : r < 55296 ∨ 57343 < r) :
    Calls Tryz.prog 129 #[.int .i32 r] w fun e w' => e = .returned (.bool true) ∧ w' = w := by
  rcases hs with hs | hs
  · go_enter Tryz.func129, Tryz.ntmps129
    go_wp2
    go_ret
    exact ⟨rfl, rfl⟩
  · have hd : decide (r < 55296) = false := decide_eq_false (by omega)
    go_enter Tryz.func129, Tryz.ntmps129
    go_wp2
    go_ret
    exact ⟨rfl, rfl⟩
theorem quiet_add_same {P : Program} {f : FuncId} {args : Array Value} {w : World} {a n : Nat} {v : Value}
    (h : Calls P f args (w.drewN (a + n)) fun e w' => e = .returned v ∧ w' = w.drewN (a + n)) :
    Calls P f args (w.drewN (a + n)) fun e w'' => e = .returned v ∧ ∃ m, w'' = w.drewN (a + m) :=
  h.mono fun _ _ ⟨he, hm⟩ => ⟨he, n, hm⟩
theorem below_drewN {B : Nat} {a w : World} (h : Below B a w) (n : Nat) : Below B a (w.drewN n) := ⟨h.os, h.tape, h.output, h.size, h.block⟩
theorem sIndexByteHigh (s : ByteArray) (b : UInt8) (w : World) (hb : 128 ≤ b.toNat) (hs : s.data.toList.all (fun x => decide (x.toNat < 128)) = true) :
    Calls Tryz.prog 128 #[.string s, .int .u8 (b.toNat : Int)] w fun e w' => e = .returned (.int .i64 (-1)) ∧ w' = w :=
  (sIndexByte s b.toNat w).mono fun e w' ⟨h1, h2⟩ => ⟨by
    rw [h1]
    simp only [Int.toNat_natCast, Nat.toUInt8_eq, UInt8.ofNat_toNat]
    rw [M2.indexByte_no]
    intro hm
    have := of_decide_eq_true (List.all_eq_true.1 hs _ hm)
    omega, h2⟩
set_option maxHeartbeats 4000000 in
set_option maxRecDepth 100000 in
theorem indexRune7_two (r : Int) (a b : UInt8) (w : World) (h0 : 128 ≤ r) (h1 : r ≤ 1114111) (hb : (r == 65533) = false) (hs : r < 55296 ∨ 57343 < r) (he : Utf8.encode r = ⟨#[a, b]⟩) (hbb : 128 ≤ b.toNat) :
    Calls Tryz.prog 124 #[.string c7, .int .i32 r] w fun e w' => e = .returned (.int .i64 (-1)) ∧ Below w.heap.size w w' := by
  have hd : decide (r < 128) = false := decide_eq_false (by omega)
  have hv := Lib.hid (fun w => validRune r w h0 h1 hs)
  clear hs
  go_enter Tryz.func124, Tryz.ntmps124
  go_wp2_with (go_at_call 129; refine (hv.out _).mono ?_; rintro e w1 ⟨rfl, rfl⟩)
  go_step3
  go_wp2_with (go_at_call 129; refine (hv.out _).mono ?_; rintro e w1 ⟨rfl, rfl⟩)
  go_loop [9] (fun i => i = .int .i64 1) (fun _ => 0)
  case atStart => rfl
  case round =>
    obtain rfl := hrel
    have hq : (((c7[1]'(by decide)).toNat : Int) != (((⟨#[a, b]⟩ : ByteArray)[1]'(by show 1 < 2; decide)).toNat : Int)) = true := by
      show ((10 : Int) != (b.toNat : Int)) = true
      simp; omega
    go_wp2
    go_step3
    go_wp2
    go_quiet (fail)
    go_wp2
    go_quiet ((go_at_call 128; exact quiet_add_same (sIndexByteHigh _ _ _ hbb (by decide))))
    go_wp2
    rw [Exit.noGoto_ret]
    go_wp2
    rw [Exit.noGoto_ret]
    go_wp2
    go_ret
    exact ⟨rfl, ⟨rfl, rfl, rfl, Nat.le_refl _, fun _ _ => rfl⟩⟩
set_option maxHeartbeats 4000000 in
set_option maxRecDepth 100000 in
theorem indexRune7_three (r : Int) (a b c : UInt8) (w : World) (h0 : 128 ≤ r) (h1 : r ≤ 1114111) (hb : (r == 65533) = false) (hs : r < 55296 ∨ 57343 < r) (he : Utf8.encode r = ⟨#[a, b, c]⟩) (hbb : 128 ≤ c.toNat) :
    Calls Tryz.prog 124 #[.string c7, .int .i32 r] w fun e w' => e = .returned (.int .i64 (-1)) ∧ Below w.heap.size w w' := by
  have hd : decide (r < 128) = false := decide_eq_false (by omega)
  have hv := Lib.hid (fun w => validRune r w h0 h1 hs)
  clear hs
  go_enter Tryz.func124, Tryz.ntmps124
  go_wp2_with (go_at_call 129; refine (hv.out _).mono ?_; rintro e w1 ⟨rfl, rfl⟩)
  go_step3
  go_wp2_with (go_at_call 129; refine (hv.out _).mono ?_; rintro e w1 ⟨rfl, rfl⟩)
  go_loop [9] (fun i => i = .int .i64 2) (fun _ => 0)
  case atStart => rfl
  case round =>
    obtain rfl := hrel
    have hq : (((c7[2]'(by decide)).toNat : Int) != (((⟨#[a, b, c]⟩ : ByteArray)[2]'(by show 2 < 3; decide)).toNat : Int)) = true := by
      show ((12 : Int) != (c.toNat : Int)) = true
      simp; omega
    go_wp2
    go_step3
    go_wp2
    go_quiet (fail)
    go_wp2
    go_quiet ((go_at_call 128; exact quiet_add_same (sIndexByteHigh _ _ _ hbb (by decide))))
    go_wp2
    rw [Exit.noGoto_ret]
    go_wp2
    rw [Exit.noGoto_ret]
    go_wp2
    go_ret
    exact ⟨rfl, ⟨rfl, rfl, rfl, Nat.le_refl _, fun _ _ => rfl⟩⟩
set_option maxHeartbeats 4000000 in
set_option maxRecDepth 100000 in
theorem indexRune7_four (r : Int) (a b c d : UInt8) (w : World) (h0 : 128 ≤ r) (h1 : r ≤ 1114111) (hb : (r == 65533) = false) (hs : r < 55296 ∨ 57343 < r) (he : Utf8.encode r = ⟨#[a, b, c, d]⟩) (hbb : 128 ≤ d.toNat) :
    Calls Tryz.prog 124 #[.string c7, .int .i32 r] w fun e w' => e = .returned (.int .i64 (-1)) ∧ Below w.heap.size w w' := by
  have hd : decide (r < 128) = false := decide_eq_false (by omega)
  have hv := Lib.hid (fun w => validRune r w h0 h1 hs)
  clear hs
  go_enter Tryz.func124, Tryz.ntmps124
  go_wp2_with (go_at_call 129; refine (hv.out _).mono ?_; rintro e w1 ⟨rfl, rfl⟩)
  go_step3
  go_wp2_with (go_at_call 129; refine (hv.out _).mono ?_; rintro e w1 ⟨rfl, rfl⟩)
  go_loop [9] (fun i => i = .int .i64 3) (fun _ => 0)
  case atStart => rfl
  case round =>
    obtain rfl := hrel
    have hq : (((c7[3]'(by decide)).toNat : Int) != (((⟨#[a, b, c, d]⟩ : ByteArray)[3]'(by show 3 < 4; decide)).toNat : Int)) = true := by
      show ((32 : Int) != (d.toNat : Int)) = true
      simp; omega
    go_wp2
    go_step3
    go_wp2
    go_quiet (fail)
    go_wp2
    go_quiet ((go_at_call 128; exact quiet_add_same (sIndexByteHigh _ _ _ hbb (by decide))))
    go_wp2
    rw [Exit.noGoto_ret]
    go_wp2
    rw [Exit.noGoto_ret]
    go_wp2
    go_ret
    exact ⟨rfl, ⟨rfl, rfl, rfl, Nat.le_refl _, fun _ _ => rfl⟩⟩
set_option maxHeartbeats 4000000 in
set_option maxRecDepth 100000 in
theorem indexRune7_bad (w : World) :
    Calls Tryz.prog 124 #[.string c7, .int .i32 65533] w fun e w' => e = .returned (.int .i64 (-1)) ∧ Below w.heap.size w w' := by
  go_enter Tryz.func124, Tryz.ntmps124
  go_wp2
  go_loopw [] (fun wr => ∃ p : Nat, p ≤ 7 ∧ wr.heap[w.heap.size]? = some (.stringIter c7 p) ∧ Below w.heap.size w wr) (fun wr => 7 - wr.iterPos w.heap.size)
  case atStart => exact ⟨0, by omega, World.iter_heap w c7 0, (Below.refl _ w).alloc (Nat.le_refl _) _⟩
  case round =>
    obtain ⟨p, hpl, hit, hbw⟩ := hrel
    have hsz : w.heap.size < wr.heap.size := (Array.getElem?_eq_some_iff.1 hit).1
    by_cases hp : p < 7
    · have hnx := next_dec (P := Tryz.prog) wr w.heap.size c7 p hit hp
      have hd : ∃ x : Nat, M1.dec (c7.data.toList.drop p) = (x, 1) ∧ x < 128 := by
        have : p = 0 ∨ p = 1 ∨ p = 2 ∨ p = 3 ∨ p = 4 ∨ p = 5 ∨ p = 6 := by omega
        rcases this with rfl | rfl | rfl | rfl | rfl | rfl | rfl <;> exact ⟨_, M2.dec_lo _ _ (by decide), by decide⟩
      obtain ⟨x, hx, hx2⟩ := hd
      rw [hx] at hnx
      have hbw1 := Lib.below_iterAt hbw (Nat.le_refl _) c7 (p + 1)
      have hit1 := Lib.iterAt_heap wr w.heap.size c7 p (p + 1) hit
      simp only at hnx
      generalize wr.iterAt w.heap.size c7 (p + 1) = w1 at *
      have hne : ((x : Int) == 65533) = false := by simp; omega
      clear hx
      go_wp2
      go_roundw
      case rel => exact ⟨p + 1, by omega, hit1, hbw1⟩
      case measure => rw [iterPos_of hit1, iterPos_of hit]; omega
    · have hnx := fun ty => Lib.run_next_end_at (P := Tryz.prog) wr w.heap.size c7 p ty hit (by show ¬ p < 7; omega)
      go_wp2
      try rw [Exit.noGoto_ret]
      go_wp2
      go_ret
      exact ⟨rfl, hbw⟩
theorem indexRune7 (r : Int) (w : World) (h0 : 0 ≤ r) (hs : r < 55296 ∨ 57343 < r) (h1 : r ≤ 1114111) :
    Calls Tryz.prog 124 #[.string c7, .int .i32 r] w fun e w' => ∃ z : Int, e = .returned (.int .i64 z) ∧ decide (0 ≤ z) = (decide (r < 128) && M3.badB r.toNat.toUInt8) ∧ Below w.heap.size w w' := by
  by_cases h128 : r < 128
  · refine (Tryz.strings_IndexRune_ascii c7 r w h0 h128).mono fun e w' ⟨h2, h3⟩ => ⟨_, h2, ?_, by rw [h3]; exact Below.refl _ _⟩
    rw [M3.badB_eq, Lib.contains_iff_indexByte, decide_eq_true h128, Bool.true_and]
  · have hd : (decide (r < 128) && M3.badB r.toNat.toUInt8) = false := by rw [decide_eq_false h128]; rfl
    rw [hd]
    by_cases hb : r = 65533
    · subst hb
      exact (indexRune7_bad w).mono fun e w' ⟨h2, h3⟩ => ⟨_, h2, rfl, h3⟩
    · have hbb : (r == 65533) = false := by simpa using hb
      rcases encode_high r (by omega) h1 hs with ⟨a, b, he, h⟩ | ⟨a, b, c, he, h⟩ | ⟨a, b, c, d, he, h⟩
      · exact (indexRune7_two r a b w (by omega) h1 hbb hs he h).mono fun e w' ⟨h2, h3⟩ => ⟨_, h2, rfl, h3⟩
      · exact (indexRune7_three r a b c w (by omega) h1 hbb hs he h).mono fun e w' ⟨h2, h3⟩ => ⟨_, h2, rfl, h3⟩
      · exact (indexRune7_four r a b c d w (by omega) h1 hbb hs he h).mono fun e w' ⟨h2, h3⟩ => ⟨_, h2, rfl, h3⟩
end Go.Proofs.YteefodibpjgicaaGreat

namespace Go.Proofs.YteefodibpjgicaaGreat
open Go.RowKit
def AnyPost (l : List UInt8) (w : World) (e : Ending) (w' : World) : Prop := ∃ z : Int, e = .returned (.int .i64 z) ∧ decide (0 ≤ z) = l.any M3.badB ∧ Below w.heap.size w w'
theorem zero86 : ∀ w, (zeroValue 137).run Tryz.prog w = .ok (.agg (Array.replicate 256 (.bool false))) w := by
  intro w; kernel_rfl
set_option maxHeartbeats 1000000 in
theorem useASCII (n : Nat) (w : World) (h : n ≤ 8) : Calls Tryz.prog 125 #[.int .i64 (n : Int)] w fun e w' => e = .returned (.bool false) ∧ w = w' := by
  have hd : decide (8 < (n : Int)) = false := decide_eq_false (by omega)
  go_enter Tryz.func125, Tryz.ntmps125
  go_wp2
  go_ret
  exact ⟨rfl, rfl⟩
set_option maxHeartbeats 2000000 in
set_option maxRecDepth 100000 in
theorem indexAny7_short (s : ByteArray) (w : World) (hs : s.size ≤ 8) :
    Calls Tryz.prog 121 #[.string s, .string c7] w (AnyPost s.data.toList w) := by
  have hsz : s.size = s.data.toList.length := rfl
  generalize hl : s.data.toList = l at *
  go_enter Tryz.func121, Tryz.ntmps121
  go_wp2_with (go_at_call 125; refine (useASCII _ _ (by omega)).mono ?_; rintro e w1 ⟨rfl, rfl⟩)
  go_loopw [] (fun wr => ∃ p : Nat, p ≤ l.length ∧ wr.heap[w.heap.size]? = some (.stringIter s p) ∧ Below w.heap.size w wr ∧ Hid (l.any M3.badB = (l.drop p).any M3.badB)) (fun wr => l.length - wr.iterPos w.heap.size)
  case atStart => exact ⟨0, by omega, World.iter_heap w s 0, (Below.refl _ w).alloc (Nat.le_refl _) _, rfl⟩
  case round =>
    obtain ⟨p, hpl, hit, hbw, hB⟩ := hrel
    have hsz0 : w.heap.size < wr.heap.size := (Array.getElem?_eq_some_iff.1 hit).1
    by_cases hp : p < l.length
    · have hdr : l.drop p = l[p] :: l.drop (p + 1) := List.drop_eq_getElem_cons hp
      have hnx := next_dec (P := Tryz.prog) wr w.heap.size s p hit (by omega)
      have hle := M1.dec_le (l.drop p) (drop_ne hp)
      have hpos := M1.dec_pos (l.drop p) (drop_ne hp)
      rw [List.length_drop] at hle
      have hok := M1.runes_ok _ (l.drop p) (Nat.le_refl _) _ (by rw [M1.runes_step _ (drop_ne hp)]; exact List.mem_cons_self)
      unfold M1.okRune at hok
      have hskip := M3.any_skip l[p] (l.drop (p + 1))
      have hlo := M2.dec_lo l[p] (l.drop (p + 1))
      have hhi := M2.dec_hi l[p] (l.drop (p + 1))
      have hst : (l.drop p).any M3.badB = (M3.badB l[p] || (l.drop (p + 1)).any M3.badB) := by rw [hdr]; rfl
      rw [← hdr] at hskip hlo hhi
      rw [hl] at hnx
      generalize l[p] = c at *
      have hd2 := fun n => List.drop_drop (i := n) (j := p) (l := l)
      replace hd2 := Lib.hid hd2
      generalize M1.dec (l.drop p) = rw_ at *
      obtain ⟨r, wd⟩ := rw_
      simp only at hnx hhi hle hpos hok hskip
      have hbw1 := Lib.below_iterAt hbw (Nat.le_refl _) s (p + wd)
      have hit1 := Lib.iterAt_heap wr w.heap.size s p (p + wd) hit
      generalize wr.iterAt w.heap.size s (p + wd) = w1 at *
      have hsz1 : w.heap.size < w1.heap.size := (Array.getElem?_eq_some_iff.1 hit1).1
      clear hdr hl
      replace hst := Lib.hid (hB.out.trans hst)
      have hir := Lib.hid (fun W => indexRune7 (r : Int) W (by omega) (by omega) (by omega))
      rcases Nat.lt_or_ge c.toNat 128 with h1 | h1
      · have hrw := hlo h1
        simp only [Prod.mk.injEq] at hrw
        obtain ⟨rfl, rfl⟩ := hrw
        have hcc : (decide ((c.toNat : Int) < 128) && M3.badB (c.toNat : Int).toNat.toUInt8) = M3.badB c := by
          rw [decide_eq_true (by omega), Bool.true_and]; simp
        replace hcc := Lib.hid hcc
        clear hlo hhi hskip
        cases hbad : M3.badB c
        · rw [hbad, Bool.false_or] at hst
          rw [hbad] at hcc
          go_wp2_with fail
          refine (hir.out _).mono ?_
          rintro e w2 ⟨z, rfl, hz, hb2⟩
          rw [hcc.out] at hz
          have hz2 : z < 0 := by have := of_decide_eq_false hz; omega
          clear hz
          have hit2 := (hb2.block w.heap.size hsz1).trans hit1
          have hbw2 := hbw1.trans (hb2.mono (by omega))
          go_wp2
          go_roundw
          case rel => exact ⟨p + 1, by omega, hit2, hbw2, hst⟩
          case measure => rw [iterPos_of hit2, iterPos_of hit]; omega
        · rw [hbad, Bool.true_or] at hst
          rw [hbad] at hcc
          go_wp2_with fail
          refine (hir.out _).mono ?_
          rintro e w2 ⟨z, rfl, hz, hb2⟩
          rw [hcc.out] at hz
          have hz2 : 0 ≤ z := of_decide_eq_true hz
          clear hz
          have hbw2 := hbw1.trans (hb2.mono (by omega))
          go_wp2
          go_ret
          exact ⟨_, rfl, by rw [hst.out]; exact decide_eq_true (by omega), hbw2⟩
      · replace hhi := hhi h1
        replace hskip := Lib.hid ((hB.out.trans (hskip h1)).trans (by rw [hd2.out]))
        clear hlo hst hB
        go_wp2_with fail
        refine (hir.out _).mono ?_
        rintro e w2 ⟨z, rfl, hz, hb2⟩
        rw [decide_eq_false (by omega : ¬ (r : Int) < 128), Bool.false_and] at hz
        have hz2 : z < 0 := by have := of_decide_eq_false hz; omega
        clear hz
        have hit2 := (hb2.block w.heap.size hsz1).trans hit1
        have hbw2 := hbw1.trans (hb2.mono (by omega))
        go_wp2
        go_roundw
        case rel => exact ⟨p + wd, by omega, hit2, hbw2, hskip⟩
        case measure => rw [iterPos_of hit2, iterPos_of hit]; omega
    · have hnx := fun ty => Lib.run_next_end_at (P := Tryz.prog) wr w.heap.size s p ty hit (by omega)
      go_wp2
      go_ret
      exact ⟨_, rfl, by rw [hB.out, List.drop_of_length_le (by omega)]; rfl, hbw⟩
theorem indexAny7 (s : ByteArray) (w : World) (hs : s.size < 4294967281) :
    Calls Tryz.prog 121 #[.string s, .string c7] w (AnyPost s.data.toList w) := by
  by_cases h : s.size ≤ 8
  · exact indexAny7_short s w h
  · exact (Tryz.strings_IndexAny_long zero86 s c7 w (by decide) (by omega) hs (by decide) (by intro j b hb; match j, hb with | 0, hb | 1, hb | 2, hb | 3, hb | 4, hb | 5, hb | 6, hb => cases hb; decide)).mono fun e w' ⟨h1, h2⟩ =>
      ⟨_, h1, M3.indexAny_bad _, by rw [h2]; exact ((Below.refl _ w).alloc (Nat.le_refl _) _).alloc (by simp) _⟩
set_option maxHeartbeats 1000000 in
theorem containsAny7 (s : ByteArray) (w : World) (hs : s.size < 4294967281) :
    Calls Tryz.prog 112 #[.string s, .string c7] w fun e w' => e = .returned (.bool (s.data.toList.any M3.badB)) ∧ Below w.heap.size w w' := by
  have h := Lib.hid (fun W => indexAny7 s W hs)
  go_enter Tryz.func112, Tryz.ntmps112
  go_wp2_with fail
  refine (h.out _).mono ?_
  rintro e w1 ⟨z, rfl, hz, hb⟩
  replace hz := Lib.hid hz
  go_wp2
  go_ret
  exact ⟨by rw [← hz.out]; rfl, hb⟩
set_option maxHeartbeats 2000000 in
set_option maxRecDepth 100000 in
theorem domAttributed (s : ByteArray) (w : World) (hs : s.size ≤ 268435456) :
    Calls Tryz.prog 103 #[.string s] w fun e w' => e = .returned (.bool (M3.attributedB s.data.toList)) ∧ Below w.heap.size w w' := by
  have hS := Lib.hid hs
  have hI := Lib.hid (fun W => utfIs s W (by omega))
  have hF := Lib.hid (fun W => utfFold s W (by omega))
  have hC := Lib.hid (fun W => containsAny7 s W (by omega))
  have hf : ((⟨(M1.fold s.data.toList).toArray⟩ : ByteArray).toList == s.toList) = !(s.data.toList.any M3.capB) := by
    rw [← M3.fold_same, Lib.toList_data, Lib.toList_data]
  have hr : Hid (M3.attributedB s.data.toList = (!s.toList.isEmpty && (M1.isB s.data.toList && !(s.data.toList.any M3.capB) && !(s.data.toList.any M3.badB)))) := by
    show _ = _
    rw [Lib.toList_data]; rfl
  generalize (⟨(M1.fold s.data.toList).toArray⟩ : ByteArray) = F at *
  generalize M1.isB s.data.toList = b1 at *
  generalize s.data.toList.any M3.capB = b2 at *
  generalize s.data.toList.any M3.badB = b3 at *
  clear hs
  by_cases he : s.toList = []
  · have he2 : s.toList.isEmpty = true := by rw [he]; rfl
    have hr2 : Hid (M3.attributedB s.data.toList = false) := by
      show _ = _
      rw [hr.out, he2]; rfl
    clear hr hf
    go_enter Tryz.func103, Tryz.ntmps103
    go_wp2
    go_ret
    exact ⟨by rw [hr2.out]; rfl, Below.refl _ _⟩
  have he2 : s.toList.isEmpty = false := by cases h : s.toList with | nil => exact absurd h he | cons _ _ => rfl
  rw [he2] at hr
  cases b1
  · go_enter Tryz.func103, Tryz.ntmps103
    go_wp2_with fail
    refine (hI.out _).mono ?_
    rintro e w1 ⟨rfl, hb1⟩
    go_wp2
    go_ret
    exact ⟨by rw [hr.out]; rfl, hb1⟩
  cases b2
  · go_enter Tryz.func103, Tryz.ntmps103
    go_wp2_with fail
    refine (hI.out _).mono ?_
    rintro e w1 ⟨rfl, hb1⟩
    go_wp2_with fail
    refine (hF.out _).mono ?_
    rintro e w2 ⟨rfl, hb2⟩
    go_wp2_with fail
    refine (hC.out _).mono ?_
    rintro e w3 ⟨rfl, hb3⟩
    go_wp2
    go_ret
    exact ⟨by rw [hr.out]; cases b3 <;> rfl, bt (bt hb1 hb2) hb3⟩
  · go_enter Tryz.func103, Tryz.ntmps103
    go_wp2_with fail
    refine (hI.out _).mono ?_
    rintro e w1 ⟨rfl, hb1⟩
    go_wp2_with fail
    refine (hF.out _).mono ?_
    rintro e w2 ⟨rfl, hb2⟩
    go_wp2
    go_ret
    exact ⟨by rw [hr.out]; rfl, bt hb1 hb2⟩
def restB (l : List UInt8) : Bool := !(l.any M3.capB) && !(l.any M3.badB)
theorem restB_drop (s : ByteArray) (i : Nat) (h : i < s.size) : restB (s.data.toList.drop i) = (!(M3.capB s[i]) && !(M3.badB s[i]) && restB (s.data.toList.drop (i + 1))) := by
  have hsz : s.size = s.data.toList.length := rfl
  unfold restB
  rw [List.drop_eq_getElem_cons (show i < s.data.toList.length by omega), List.any_cons, List.any_cons]
  show (!(M3.capB s[i] || _) && !(M3.badB s[i] || _)) = _
  cases M3.capB s[i] <;> cases M3.badB s[i] <;> simp
set_option maxHeartbeats 4000000 in
set_option maxRecDepth 100000 in
theorem ref03Attributed (s : ByteArray) (w : World) (hs : s.size ≤ 268435456) :
    Calls Tryz.prog 72 #[.string s] w fun e w' => e = .returned (.bool (M3.attributedB s.data.toList)) ∧ Below w.heap.size w w' := by
  have hsz : Hid (s.size = s.data.toList.length) := rfl
  have hr : Hid (M3.attributedB s.data.toList = (!s.data.toList.isEmpty && (M1.isB s.data.toList && restB s.data.toList))) := by
    show _ = _
    unfold M3.attributedB restB
    rw [Bool.and_assoc]
  have hI := ref01Is s w hs
  generalize M1.isB s.data.toList = b1 at *
  go_enter Tryz.func72, Tryz.ntmps72
  go_wp2_with fail
  refine hI.mono ?_
  rintro e w1 ⟨rfl, hb1⟩
  go_wp2
  go_loopw [4] (fun u4 wr => ∃ i : Nat, i ≤ s.size ∧ u4 = .int .i64 (i : Int) ∧ w1 = wr ∧ Hid (restB s.data.toList = restB (s.data.toList.drop i))) (fun u4 _ => s.size - (intOf u4).toNat)
  case atStart => exact ⟨0, by omega, rfl, rfl, rfl⟩
  case round =>
    obtain ⟨i, hi, rfl, rfl, hB⟩ := hrel
    by_cases hlt : i < s.size
    · have hst := Lib.hid (hB.out.trans (restB_drop s i hlt))
      clear hB
      have hcap : Hid (M3.capB s[i] = decide (65 ≤ s[i].toNat ∧ s[i].toNat ≤ 90)) := rfl
      have hbad : Hid (M3.badB s[i] = (s[i].toNat == 9 || s[i].toNat == 10 || s[i].toNat == 12 || s[i].toNat == 32 || s[i].toNat == 47 || s[i].toNat == 62 || s[i].toNat == 61)) := rfl
      have hc := s[i].toNat_lt
      generalize hn : s[i].toNat = n at *
      generalize M3.capB s[i] = p at *
      generalize M3.badB s[i] = q at *
      have hno : (p || q) = true → Hid (M3.attributedB s.data.toList = false) := by
        intro h
        show _ = _
        rw [hr.out, hst.out]
        cases p <;> cases q <;> simp_all
      by_cases h1 : 65 ≤ n ∧ n ≤ 90
      · replace hno := hno (by rw [hcap.out, decide_eq_true h1]; rfl)
        clear hcap hbad hst
        obtain ⟨h1, h2⟩ := h1
        go_wp2
        go_ret
        exact ⟨by rw [hno.out]; rfl, hb1⟩
      by_cases h2 : n = 9 ∨ n = 10 ∨ n = 12 ∨ n = 32 ∨ n = 47 ∨ n = 62 ∨ n = 61
      · replace hno := hno (by rw [hbad.out]; simp; omega)
        clear hcap hbad hst h1
        rcases h2 with rfl | rfl | rfl | rfl | rfl | rfl | rfl <;> (go_wp2; go_ret; exact ⟨by rw [hno.out]; rfl, hb1⟩)
      · have hp : p = false := by rw [hcap.out]; exact decide_eq_false h1
        have hq : q = false := by rw [hbad.out]; simp; omega
        clear hno hcap hbad
        subst hp
        subst hq
        have e1 : ((n : Int) == 9) = false := by simp; omega
        have e2 : ((n : Int) == 10) = false := by simp; omega
        have e3 : ((n : Int) == 12) = false := by simp; omega
        have e4 : ((n : Int) == 32) = false := by simp; omega
        have e5 : ((n : Int) == 47) = false := by simp; omega
        have e6 : ((n : Int) == 62) = false := by simp; omega
        have e7 : ((n : Int) == 61) = false := by simp; omega
        clear h2
        by_cases h3 : 65 ≤ n
        · have hd : decide ((n : Int) ≤ 90) = false := decide_eq_false (by omega)
          go_wp2
          go_roundw
          case rel => exact ⟨i + 1, by omega, by go_num, by trivial, by rw [hst.out]; rfl⟩
          case measure => simp [intOf]; omega
        · go_wp2
          go_roundw
          case rel => exact ⟨i + 1, by omega, by go_num, by trivial, by rw [hst.out]; rfl⟩
          case measure => simp [intOf]; omega
    · have h0 : restB (s.data.toList.drop i) = true := by rw [List.drop_of_length_le (by have := hsz.out; omega)]; rfl
      replace hr := Lib.hid ((hr.out).trans (by rw [hB.out, h0]))
      clear h0 hB
      cases b1
      · go_wp2
        go_ret
        exact ⟨by rw [hr.out]; simp, hb1⟩
      · by_cases h0 : 0 < s.size
        · go_wp2
          go_ret
          refine ⟨?_, hb1⟩
          rw [hr.out]
          have : s.data.toList.isEmpty = false := by rw [← Bool.not_eq_true, List.isEmpty_iff]; intro h; have := hsz.out; rw [h, List.length_nil] at this; omega
          rw [this]; simp
        · have h00 : s.size = 0 := by omega
          have : s.data.toList.isEmpty = true := by rw [List.isEmpty_iff]; exact List.eq_nil_of_length_eq_zero (by rw [← hsz.out]; exact h00)
          rw [this] at hr
          clear this h00
          go_wp2
          go_ret
          exact ⟨by rw [hr.out]; rfl, hb1⟩
set_option maxHeartbeats 4000000 in
set_option maxRecDepth 100000 in
theorem ref03Named (s : ByteArray) (w : World) (hs : s.size ≤ 9223372036854775807) :
    Calls Tryz.prog 71 #[.string s] w fun e w' => e = .returned (.bool (M3.namedB s.data.toList)) ∧ w = w' := by
  have hsz : Hid (s.size = s.data.toList.length) := rfl
  by_cases h0 : s.size = 0
  · have : s.data.toList = [] := List.eq_nil_of_length_eq_zero (by rw [← hsz.out]; exact h0)
    have hr : Hid (M3.namedB s.data.toList = false) := by show _ = _; rw [this]; rfl
    clear this
    go_enter Tryz.func71, Tryz.ntmps71
    go_wp2
    go_ret
    exact ⟨by rw [hr.out]; rfl, rfl⟩
  have hz : ((s.size : Int) == 0) = false := by simpa using h0
  have hpos : 0 < s.size := by omega
  have hr : Hid (M3.namedB s.data.toList = (M3.smallB s[0] && (s.data.toList.drop 0).all M3.nameB)) := by
    show _ = _
    have hl := hsz.out
    obtain ⟨c, r, hd⟩ := List.exists_cons_of_ne_nil (show s.data.toList ≠ [] by intro h; rw [h, List.length_nil] at hl; omega)
    have h1 : s[0] = c := by
      show s.data.toList[0]'(by omega) = c
      simp [hd]
    rw [h1, List.drop_zero, hd]
    show (M3.smallB c && r.all M3.nameB) = (M3.smallB c && (M3.nameB c && r.all M3.nameB))
    unfold M3.nameB
    cases M3.smallB c <;> simp
  have hs0 := Lib.hid (fun W => ref03Small s[0] W)
  generalize M3.smallB s[0] = f at *
  go_enter Tryz.func71, Tryz.ntmps71
  go_wp2_with fail
  refine (hs0.out _).mono ?_
  rintro e w1 ⟨rfl, hw⟩
  rw [hw]
  clear hw w1
  go_wp2
  go_loopw [4] (fun u4 wr => ∃ i : Nat, i ≤ s.size ∧ u4 = .int .i64 (i : Int) ∧ w = wr ∧ Hid (M3.namedB s.data.toList = (f && (s.data.toList.drop i).all M3.nameB))) (fun u4 _ => s.size - (intOf u4).toNat)
  case atStart => exact ⟨0, by omega, rfl, rfl, hr.out⟩
  case round =>
    obtain ⟨i, hi, rfl, rfl, hB⟩ := hrel
    by_cases hlt : i < s.size
    · have hst : (s.data.toList.drop i).all M3.nameB = (M3.nameB s[i] && (s.data.toList.drop (i + 1)).all M3.nameB) := by
        rw [List.drop_eq_getElem_cons (show i < s.data.toList.length by have := hsz.out; omega), List.all_cons]; rfl
      replace hst := Lib.hid (hB.out.trans (by rw [hst]))
      have hsi := Lib.hid (fun W => ref03Small s[i] W)
      have hnm : Hid (M3.nameB s[i] = (M3.smallB s[i] || decide (s[i].toNat = 45 ∨ (48 ≤ s[i].toNat ∧ s[i].toNat ≤ 57)))) := rfl
      clear hB hr
      generalize M3.smallB s[i] = p at *
      generalize M3.nameB s[i] = q at *
      have hc := s[i].toNat_lt
      cases p
      · by_cases h1 : s[i].toNat = 45 ∨ (48 ≤ s[i].toNat ∧ s[i].toNat ≤ 57)
        · have hq : q = true := by rw [hnm.out, decide_eq_true h1]; rfl
          subst hq
          clear hnm
          rcases h1 with h1 | ⟨h1, h2⟩
          · have e1 : ((s[i].toNat : Int) != 45) = false := by rw [h1]; rfl
            have e2 : decide ((s[i].toNat : Int) < 48) = true := decide_eq_true (by omega)
            clear h1
            go_wp2_with fail
            refine (hsi.out _).mono ?_
            rintro e w1 ⟨rfl, hw⟩
            rw [hw]
            clear hw w1
            go_wp2
            go_roundw
            case rel => exact ⟨i + 1, by omega, by go_num, by trivial, by show _ = _; rw [hst.out]; simp⟩
            case measure => simp [intOf]; omega
          · go_wp2_with fail
            refine (hsi.out _).mono ?_
            rintro e w1 ⟨rfl, hw⟩
            rw [hw]
            clear hw w1
            go_wp2
            go_roundw
            case rel => exact ⟨i + 1, by omega, by go_num, by trivial, by show _ = _; rw [hst.out]; simp⟩
            case measure => simp [intOf]; omega
        · have hq : q = false := by rw [hnm.out, decide_eq_false h1]; rfl
          subst hq
          clear hnm
          have e1 : ((s[i].toNat : Int) != 45) = true := by simp; omega
          have hno : Hid (M3.namedB s.data.toList = false) := by show _ = _; rw [hst.out]; simp
          clear hst
          by_cases h2 : s[i].toNat < 48
          · go_wp2_with fail
            refine (hsi.out _).mono ?_
            rintro e w1 ⟨rfl, hw⟩
            rw [hw]
            clear hw w1
            go_wp2
            go_ret
            exact ⟨by rw [hno.out]; rfl, by trivial⟩
          · have e2 : decide ((s[i].toNat : Int) < 48) = false := decide_eq_false (by omega)
            have e3 : decide (57 < (s[i].toNat : Int)) = true := decide_eq_true (by omega)
            clear h1
            go_wp2_with fail
            refine (hsi.out _).mono ?_
            rintro e w1 ⟨rfl, hw⟩
            rw [hw]
            clear hw w1
            go_wp2
            go_ret
            exact ⟨by rw [hno.out]; rfl, by trivial⟩
      · have hq : q = true := by rw [hnm.out]; rfl
        subst hq
        clear hnm
        go_wp2_with fail
        refine (hsi.out _).mono ?_
        rintro e w1 ⟨rfl, hw⟩
        rw [hw]
        clear hw w1
        go_wp2
        go_roundw
        case rel => exact ⟨i + 1, by omega, by go_num, by trivial, by show _ = _; rw [hst.out]; simp⟩
        case measure => simp [intOf]; omega
    · have h0 : (s.data.toList.drop i).all M3.nameB = true := by rw [List.drop_of_length_le (by have := hsz.out; omega)]; rfl
      have hB2 := Lib.hid (hB.out.trans (by rw [h0, Bool.and_true]))
      clear h0 hB hr
      go_wp2
      go_ret
      exact ⟨by rw [hB2.out]; rfl, by trivial⟩
end Go.Proofs.YteefodibpjgicaaGreat

namespace Go.Proofs.YteefodibpjgicaaGreat
namespace M3
def plainF (n : ByteArray) (ats : List Att) (ks : List Nd) : Bool := nilB n && ats.isEmpty && ks.isEmpty
def kindlyF (k : Int) (n : ByteArray) (ats : List Att) (t : ByteArray) (ks : List Nd) : Bool := if k = 1 then nilB t else if k = 2 ∨ k = 3 then plainF n ats ks else false
def elemF (n : ByteArray) (ats : List Att) : Int := if namedB n.data.toList then (if namesE [] ats = 0 then valuesE ats else namesE [] ats) else 4
def oneF (k : Int) (n : ByteArray) (ats : List Att) (t : ByteArray) (ks : List Nd) (p : Bool) : Int :=
  if kindlyF k n ats t ks then (if k = 1 then elemF n ats else if M1.isB t.data.toList && !(decide (k = 2) && (nilB t || p)) then 0 else 2) else 7
theorem oneE_mk (k : Int) (n : ByteArray) (ats : List Att) (t : ByteArray) (ks : List Nd) (p : Bool) : oneE (.mk k n ats t ks) p = oneF k n ats t ks p := by
  unfold oneE oneF kindlyF
  show (if k = 1 then elemE _ else if k = 2 then (if plainF n ats ks then (if M1.isB t.data.toList && !(nilB t || p) then 0 else 2) else 7) else if k = 3 then (if plainF n ats ks then (if M1.isB t.data.toList then 0 else 2) else 7) else 7) = _
  by_cases h1 : k = 1
  · rw [if_pos h1, if_pos h1, if_pos h1]
    rfl
  by_cases h2 : k = 2
  · rw [if_neg h1, if_pos h2, if_neg h1, if_pos (Or.inl h2), if_neg h1, decide_eq_true h2, Bool.true_and]
  by_cases h3 : k = 3
  · rw [if_neg h1, if_neg h2, if_pos h3, if_neg h1, if_pos (Or.inr h3), if_neg h1, decide_eq_false h2, Bool.false_and, Bool.not_false, Bool.and_true]
  · have hno : ¬ (k = 2 ∨ k = 3) := fun h => h.elim h2 h3
    rw [if_neg h1, if_neg h2, if_neg h3, if_neg h1, if_neg hno]
    rfl
end M3
end Go.Proofs.YteefodibpjgicaaGreat

namespace Go.Proofs.YteefodibpjgicaaGreat
open Go.RowKit Go.Maps Go.WideShapes
variable {H : Type}
def rowD (l : List (Lit × DataW H)) (D : DataW H) : DataW H := l.foldl (fun D p => D.put p.1 p.2) D
theorem rowD_has : ∀ (l : List (Lit × DataW H)) (D : DataW H) (k : Lit), IsMap D → (∀ p ∈ l, WideAt.IsKeyLit p.1) → Maps.has (rowD l D) k = (l.any (fun p => p.1.sameKey k) || Maps.has D k)
  | [], _, _, _, _ => by simp [rowD]
  | p :: l, D, k, h, hk => by
    have ih := rowD_has l (D.put p.1 p.2) k (h.put _ _) (fun q hq => hk q (by simp [hq]))
    show Maps.has (rowD l (D.put p.1 p.2)) k = _
    rw [ih, List.any_cons]
    by_cases e : p.1 = k
    · subst e
      rw [has_put_same h (hk p (by simp)), WideAt.sameKey_self (hk p (by simp))]
      simp
    · rw [has_put_other (fun h => e h.symm), sameKey_ne e]
      simp
theorem rowD_other : ∀ (l : List (Lit × DataW H)) (D z : DataW H) (k : Lit), (∀ p ∈ l, p.1 ≠ k) → (rowD l D).atKey k z = D.atKey k z
  | [], _, _, _, _ => rfl
  | p :: l, D, z, k, h => by
    show (rowD l (D.put p.1 p.2)).atKey k z = _
    rw [rowD_other l _ z k (fun q hq => h q (by simp [hq])), atKey_put_other (fun e => h p (by simp) e.symm)]
theorem rowD_at : ∀ (l : List (Lit × DataW H)) (D z : DataW H) (p : Lit × DataW H), IsMap D → (∀ p ∈ l, WideAt.IsKeyLit p.1) → l.Pairwise (fun p q => p.1 ≠ q.1) → p ∈ l → (rowD l D).atKey p.1 z = p.2
  | [], _, _, _, _, _, _, hp => by simp at hp
  | q :: l, D, z, p, h, hk, hd, hp => by
    obtain ⟨h1, h2⟩ := List.pairwise_cons.1 hd
    show (rowD l (D.put q.1 q.2)).atKey p.1 z = _
    rcases List.mem_cons.1 hp with rfl | hp
    · rw [rowD_other l _ z _ (fun q hq e => h1 q hq e.symm), atKey_put_same h (hk _ (by simp))]
    · exact rowD_at l _ z p (h.put _ _) (fun q hq => hk q (by simp [hq])) h2 hp
theorem ownsMap_below {P : Program} {k : TypeId} {R : Value → Option (DataW H × List MemPlace)} {w w' : World} {b n : Nat} {D : DataW H} (h : w.ownsMap P k R b n D) (hb : Below w.heap.size w w') : w'.ownsMap P k R b n D :=
  h.kept (row := none) ⟨hb.os, hb.tape, hb.output, hb.size, fun k hk _ => hb.block k hk⟩ (by simp)
theorem look_ok_int {P : Program} {w : World} {b n : Nat} {D : DataW H} {t k e : TypeId} {q : IntKind} (h : w.ownsMap P k (plainElem P e) b n D) (K : Keyed P k) (ht : P.underlying t = some (.map k e)) (he : P.underlying e = some (.int q))
    (hz : (zeroValue e).run P w = .ok (.int q 0) w) {key : Value} {kl : Lit} (hkey : keyOf P k key = some kl) {c : Int} (hc : D.atKey kl (.lit (.int q 0)) = .lit (.int q c)) :
    (Instr.lookup t (.map (some b)) key true).run P w = .ok (.tuple #[.int q c, .bool (Maps.has D kl)]) w := by
  have hw0 : (Lit.int q 0).wf = true := by cases q <;> decide
  obtain ⟨v, ps, hrun, hv⟩ := h.look_ok K ht hz (plainElem_int he hw0) hkey
  obtain ⟨c', rfl, h2, _⟩ := plainElem_int_inv he hv
  simp only [Prod.mk.injEq] at h2
  rw [h2.1] at hc
  cases hc
  exact hrun
end Go.Proofs.YteefodibpjgicaaGreat

namespace Go.Proofs.YteefodibpjgicaaGreat
open Go.RowKit Go.Maps Go.WideShapes
theorem Row.below {S : Nat → Prop} {w w' : World} {B k n : Nat} {v : Value} {xs : List Value} (h : Row S w k v n xs) (hS : ∀ b, S b → b < B) (hb : Below B w w') : Row S w' k v n xs := h.keep fun b h => hb.block b (hS b h)
theorem RepN.below {S : Nat → Prop} {w w' : World} {B : Nat} {v : Value} {l : List Nd} (h : RepN S w v l) (hS : ∀ b, S b → b < B) (hb : Below B w w') : RepN S w' v l := h.keep fun b h => hb.block b (hS b h)
theorem RepV.below {S : Nat → Prop} {w w' : World} {B : Nat} {x : Nd} {va vk : Value} (h : RepV S w x va vk) (hS : ∀ b, S b → b < B) (hb : Below B w w') : RepV S w' x va vk := h.keep fun b h => hb.block b (hS b h)
theorem run_makeMap_hint {P : Program} (t k e : TypeId) (kd : IntKind) (n : Int) (ht : P.underlying t = some (.map k e)) (w : World) :
    (Instr.makeMap t (some (.int kd n))).run P w = .ok (.map (some w.heap.size)) (w.alloc (.map #[] 0)) := by
  simp [Instr.makeMap, run_underlying ht]; rfl
def valAns (o : Option ByteArray) : Value := .tuple #[.string (o.getD ⟨#[]⟩), .bool o.isSome]
theorem zeroU (w : World) : (zeroValue 116).run Tryz.prog w = .ok (.agg #[]) w := by kernel_rfl
theorem lawS : Keyed Tryz.prog 9 := string_keyed Tryz.underlying9
def keysD (l : List ByteArray) : DataW Unit := Maps.setOf (.agg []) (l.map fun s => Lit.string s.data.toList)
theorem keysD_has (l : List ByteArray) (s : ByteArray) : Maps.has (keysD l) (.string s.data.toList) = l.any (M3.eqB s) := by
  unfold keysD
  rw [Maps.has_setOf _ _ _ (by intro x hx; obtain ⟨y, _, rfl⟩ := List.mem_map.1 hx; trivial), List.any_map]
  congr 1
  funext y
  simp only [Function.comp]
  rw [Bool.eq_iff_iff, M3.eqB_iff]
  constructor
  · intro h
    have := WideAt.sameKey_eq h
    simp only [Lit.string.injEq] at this
    cases s; cases y
    congr 1
    exact (Array.ext' this).symm
  · rintro rfl; exact WideAt.sameKey_self (by trivial)
theorem keysD_snoc (l : List ByteArray) (s : ByteArray) : (keysD l).put (.string s.data.toList) (.agg []) = keysD (l ++ [s]) := by
  unfold keysD
  rw [List.map_append]
  exact (Maps.setOf_snoc _ _ _).symm
abbrev Seen (w : World) (b n : Nat) (l : List ByteArray) : Prop := w.ownsMap Tryz.prog 9 (unitElem (H := Unit)) b n (keysD l)
set_option maxHeartbeats 4000000 in
set_option maxRecDepth 100000 in
theorem domNames (S : Nat → Prop) (va : Value) (ats : List Att) (w : World) (hS : ∀ b, S b → b < w.heap.size) (hat : Row S w 2 va ats.length (cellsA ats)) (hsz : ∀ a ∈ ats, a.name.size ≤ 268435456) :
    Calls Tryz.prog 94 #[va] w fun e w' => e = .returned (.int .i64 (M3.namesE [] ats)) ∧ Below w.heap.size w w' := by
  obtain ⟨a, cap, rfl⟩ := hat.slice
  obtain ⟨_, hlc, hcm⟩ := hat.len
  have hmm := fun W => run_makeMap_hint (P := Tryz.prog) 115 9 116 .i64 (ats.length : Int) Tryz.underlying115 W
  have ho := World.ownsMap_made w Tryz.prog 9 (unitElem (H := Unit))
  go_enter Tryz.func94, Tryz.ntmps94
  go_wp2
  go_loopw [13] (fun u13 wr => ∃ i : Nat, i ≤ ats.length ∧ u13 = .int .i64 (i : Int) ∧ Below w.heap.size w wr ∧ Seen wr w.heap.size i ((ats.take i).map Att.name) ∧ Hid (M3.namesE [] ats = M3.namesE ((ats.take i).map Att.name) (ats.drop i))) (fun u13 _ => ats.length - (intOf u13).toNat)
  case atStart => exact ⟨0, by omega, rfl, (Below.refl _ _).alloc (Nat.le_refl _) _, ho, rfl⟩
  case round =>
    obtain ⟨i, hi, rfl, hb, hown, hv⟩ := hrel
    have hz := hb.size
    clear hmm ho
    by_cases hlt : i < ats.length
    · obtain ⟨b, off, rfl, hSb, c0, c1⟩ := (hat.below hS hb).atA i hlt
      have hbl := hS b hSb
      have hsn := hsz _ (List.getElem_mem hlt)
      have hdr : ats.drop i = ats[i] :: ats.drop (i + 1) := List.drop_eq_getElem_cons hlt
      have htk : (ats.take (i + 1)).map Att.name = (ats.take i).map Att.name ++ [ats[i].name] := by
        rw [List.take_succ_eq_append_getElem hlt, List.map_append]; rfl
      rw [hdr, M3.namesE, ← htk] at hv
      have hks := keysD_snoc ((ats.take i).map Att.name) ats[i].name
      rw [← htk] at hks
      have hkh := keysD_has ((ats.take i).map Att.name) ats[i].name
      generalize hs2 : (ats.take (i + 1)).map Att.name = seen2 at *
      replace hs2 := Lib.hid hs2
      generalize (ats.take i).map Att.name = seen at *
      generalize ats[i].value = vl at *
      generalize ats[i].name = nm at *
      clear hdr htk
      replace hks := Lib.hid hks
      have hA := Lib.hid (fun W => domAttributed nm W hsn)
      generalize M3.attributedB nm.data.toList = p at *
      generalize seen.any (M3.eqB nm) = q at *
      replace hkh := Lib.hid hkh
      have hsl : w.heap.size < wr.heap.size := by
        obtain ⟨es, clock, h1, _⟩ := hown
        exact (Array.getElem?_eq_some_iff.1 h1).1
      have hkey := WideMaps.keyOf_string_mk Tryz.underlying9 (s := nm) (by unfold maxLen; omega)
      replace hkey := Lib.hid hkey
      cases p
      · have hv2 : Hid (M3.namesE [] ats = 4) := hv
        clear hv
        go_wp2_with fail
        refine (hA.out _).mono ?_
        rintro e w2 ⟨rfl, hb2⟩
        go_wp2
        go_ret
        exact ⟨by rw [hv2.out]; rfl, (hb.alloc hz _).trans (hb2.mono (by simp; omega))⟩
      · go_wp2_with fail
        refine (hA.out _).mono ?_
        rintro e w2 ⟨rfl, hb2⟩
        have hown2 : Seen w2 w.heap.size i seen := ownsMap_below (hown.alloc _) hb2
        have hsl2 : w.heap.size < w2.heap.size := by have := hb2.size; simp at this; omega
        obtain ⟨v, ps, hrun, hv3⟩ := hown2.look_ok lawS Tryz.underlying115 (zeroU w2) unitElem_mk hkey.out
        obtain ⟨rfl, _⟩ := unitElem_inv hv3
        clear hv3
        rw [hkh.out] at hrun
        have hbox : Box w2 wr.heap.size 43 [.string nm, .string vl] := (Box.new wr _ _).below hb2 (by simp)
        have hc2 := hbox.cell (i := 0) rfl
        have hbw2 : Below w.heap.size w w2 := (hb.alloc hz _).trans (hb2.mono (by simp; omega))
        replace hbox := Lib.hid hbox
        have hz2 : wr.heap.size < w2.heap.size := by have := hb2.size; simp at this; omega
        cases q
        · obtain ⟨w4, hrun2, hown4, ht4⟩ := (hown2.alloc (.cells #[] 116)).store lawS Tryz.underlying115 (by unfold maxLen; omega) hkey.out (unitElem_mk (H := Unit))
          have hbw4 : Below w.heap.size w w4 := (hbw2.alloc hbw2.size (.cells #[] 116)).grown ht4.grown (by simp; omega) (fun k hk => by cases hk; exact Nat.le_refl _)
          have hown5 : Seen w4 w.heap.size (i + 1) seen2 := by show World.ownsMap _ _ _ _ _ _ (keysD seen2); rw [← hks.out]; exact hown4
          clear hown4 ht4
          go_wp2
          go_roundw
          case rel => exact ⟨i + 1, by omega, by go_num, hbw4, by rw [hs2.out]; exact hown5, by show _ = _; rw [hs2.out]; exact hv⟩
          case measure => simp [intOf]; omega
        · have hv2 : Hid (M3.namesE [] ats = 5) := hv
          clear hv
          go_wp2
          go_ret
          exact ⟨by rw [hv2.out]; rfl, hbw2.alloc hbw2.size _⟩
    · have hvd : Hid (M3.namesE [] ats = 0) := by show _ = _; rw [hv.out, List.drop_of_length_le (by omega)]; rfl
      go_wp2
      go_ret
      exact ⟨by rw [hvd.out]; rfl, hb⟩
def Fit1 (x : Nd) : Prop := x.name.size ≤ 268435456 ∧ x.text.size ≤ 268435456 ∧ (∀ a ∈ x.attrs, a.name.size ≤ 268435456 ∧ a.value.size ≤ 268435456) ∧ 1 + x.attrs.length + M3.weight x.kids ≤ 1000000
set_option maxHeartbeats 2000000 in
set_option maxRecDepth 100000 in
theorem domKindly (S : Nat → Prop) (x : Nd) (va vk : Value) (w : World) (hx : RepV S w x va vk) :
    Calls Tryz.prog 75 #[x.val va vk] w fun e w' => e = .returned (.bool (M3.kindlyF x.kind x.name x.attrs x.text x.kids)) ∧ Below w.heap.size w w' := by
  obtain ⟨hat, hkd⟩ := hx
  obtain ⟨a, cap, rfl⟩ := hat.slice
  obtain ⟨a2, cap2, rfl⟩ := hkd.slice
  cases x with | mk k n ats t ks =>
  have hb0 : ∀ cs, Below w.heap.size w (w.alloc (.cells cs 41)) := fun cs => (Below.refl _ _).alloc (Nat.le_refl _) _
  simp only [Nd.val, Nd.kind, Nd.name, Nd.text, Nd.attrs, Nd.kids] at *
  unfold M3.kindlyF M3.plainF M3.nilB
  by_cases h1 : k = 1
  · subst h1
    rw [if_pos rfl]
    go_enter Tryz.func75, Tryz.ntmps75
    go_wp2
    go_ret
    exact ⟨by simp, hb0 _⟩
  have h1b : (k == 1) = false := by simpa using h1
  rw [if_neg h1]
  by_cases h2 : k = 2 ∨ k = 3
  · rw [if_pos h2]
    clear h1
    have hq1 : ((ats.length : Int) == 0) = ats.isEmpty := by cases ats <;> simp; omega
    have hq2 : ((ks.length : Int) == 0) = ks.isEmpty := by cases ks <;> simp; omega
    generalize ats.isEmpty = e1 at *
    generalize ks.isEmpty = e2 at *
    rcases h2 with rfl | rfl
    · go_enter Tryz.func75, Tryz.ntmps75
      go_wp2
      all_goals (go_ret; exact ⟨by simp_all, hb0 _⟩)
    · go_enter Tryz.func75, Tryz.ntmps75
      go_wp2
      all_goals (go_ret; exact ⟨by simp_all, hb0 _⟩)
  · rw [if_neg h2]
    have h2b : (k == 2) = false := by simp; omega
    have h3b : (k == 3) = false := by simp; omega
    clear h1 h2
    go_enter Tryz.func75, Tryz.ntmps75
    go_wp2
    go_ret
    exact ⟨rfl, hb0 _⟩
end Go.Proofs.YteefodibpjgicaaGreat

namespace Go.Proofs.YteefodibpjgicaaGreat
open Go.RowKit Go.Maps Go.WideShapes
theorem Fit1.attr {x : Nd} (h : Fit1 x) : ∀ a ∈ x.attrs, a.name.size ≤ 268435456 := fun a ha => (h.2.2.1 a ha).1
set_option maxHeartbeats 4000000 in
set_option maxRecDepth 100000 in
theorem domElement (S : Nat → Prop) (x : Nd) (va vk : Value) (w : World) (hS : ∀ b, S b → b < w.heap.size) (hx : RepV S w x va vk) (hf : Fit1 x) :
    Calls Tryz.prog 76 #[x.val va vk] w fun e w' => e = .returned (.int .i64 (M3.elemF x.name x.attrs)) ∧ Below w.heap.size w w' := by
  obtain ⟨hat, hkd⟩ := hx
  have hN := fun w hS hat => domNames S va x.attrs w hS hat hf.attr
  obtain ⟨a, cap, rfl⟩ := hat.slice
  obtain ⟨_, hlc, hcm⟩ := hat.len
  obtain ⟨a2, cap2, rfl⟩ := hkd.slice
  cases x with | mk k n ats t ks =>
  obtain ⟨hf1, hf2, hf3, _⟩ := hf
  simp only [Nd.val, Nd.kind, Nd.name, Nd.text, Nd.attrs, Nd.kids] at *
  have hb0 := (Below.refl w.heap.size w).alloc (Nat.le_refl _) (.cells #[.int .i64 k, .string n, .slice a ats.length cap, .string t, .slice a2 ks.length cap2] 41)
  have hbx0 := Box.new w 41 [.int .i64 k, .string n, .slice a ats.length cap, .string t, .slice a2 ks.length cap2]
  have hNa := Lib.hid (fun W => domNamed n W (by omega))
  have hr : Hid (M3.elemF n ats = if M3.namedB n.data.toList then (if M3.namesE [] ats = 0 then M3.valuesE ats else M3.namesE [] ats) else 4) := rfl
  generalize M3.namedB n.data.toList = p at *
  cases p
  · replace hr : Hid (M3.elemF n ats = 4) := hr
    clear hN
    go_enter Tryz.func76, Tryz.ntmps76
    go_wp2_with fail
    refine (hNa.out _).mono ?_
    rintro e w1 ⟨rfl, hb1⟩
    go_wp2
    go_ret
    exact ⟨by rw [hr.out]; rfl, hb0.trans (hb1.mono (by simp))⟩
  replace hr : Hid (M3.elemF n ats = if M3.namesE [] ats = 0 then M3.valuesE ats else M3.namesE [] ats) := hr
  replace hN := Lib.hid hN
  generalize M3.namesE [] ats = z at *
  go_enter Tryz.func76, Tryz.ntmps76
  go_wp2_with fail
  refine (hNa.out _).mono ?_
  rintro e w1 ⟨rfl, hb1⟩
  have hbx1 := hbx0.below hb1 (by simp)
  have hc1 := hbx1.cell (i := 2) rfl
  have hbw1 : Below w.heap.size w w1 := hb0.trans (hb1.mono (by simp))
  have hz1 := hbx1.lt
  have hat1 := hat.below hS hbw1
  clear hbx0
  replace hbx1 := Lib.hid hbx1
  go_wp2_with fail
  refine (hN.out w1 (fun b h => by have := hS b h; omega) hat1).mono ?_
  rintro e w2 ⟨rfl, hb2⟩
  have hbx2 := hbx1.out.below hb2 hz1
  have hc2 := hbx2.cell (i := 2) rfl
  have hbw2 : Below w.heap.size w w2 := hbw1.trans (hb2.mono (by omega))
  have hz2 := hbx2.lt
  clear hc1
  by_cases hz : z = 0
  · rw [if_pos hz] at hr
    subst hz
    go_wp2
    go_loopw [19] (fun u19 wr => ∃ i : Nat, i ≤ ats.length ∧ u19 = .int .i64 (i : Int) ∧ Below w.heap.size w wr ∧ Hid (M3.valuesE ats = M3.valuesE (ats.drop i))) (fun u19 _ => ats.length - (intOf u19).toNat)
    case atStart => exact ⟨0, by omega, rfl, hbw2, rfl⟩
    case round =>
      obtain ⟨i, hi, rfl, hb, hv⟩ := hrel
      have hzz := hb.size
      by_cases hlt : i < ats.length
      · obtain ⟨b, off, rfl, hSb, c0, c1⟩ := (hat.below hS hb).atA i hlt
        have hbl := hS b hSb
        have hsn := (hf3 _ (List.getElem_mem hlt)).2
        have hdr : ats.drop i = ats[i] :: ats.drop (i + 1) := List.drop_eq_getElem_cons hlt
        rw [hdr, M3.valuesE] at hv
        generalize ats[i].value = vl at *
        generalize ats[i].name = nm at *
        clear hdr
        have hI := Lib.hid (fun W => utfIs vl W (by omega))
        generalize M1.isB vl.data.toList = q at *
        go_wp2_with fail
        refine (hI.out _).mono ?_
        rintro e w3 ⟨rfl, hb3⟩
        have hbw3 : Below w.heap.size w w3 := (hb.alloc hzz (.cells #[.string nm, .string vl] 43)).trans (hb3.mono (by simp; omega))
        clear hc2
        cases q
        · have hv2 : Hid (M3.valuesE ats = 2) := hv
          go_wp2
          go_ret
          exact ⟨by rw [hr.out, hv2.out]; rfl, hbw3⟩
        · have hv2 : Hid (M3.valuesE ats = M3.valuesE (ats.drop (i + 1))) := hv
          clear hv
          go_wp2
          go_roundw
          case rel => exact ⟨i + 1, by omega, by go_num, hbw3, hv2⟩
          case measure => simp [intOf]; omega
      · have hvd : Hid (M3.valuesE ats = 0) := by show _ = _; rw [hv.out, List.drop_of_length_le (by omega)]; rfl
        go_wp2
        go_ret
        exact ⟨by rw [hr.out, hvd.out]; rfl, hb⟩
  · rw [if_neg hz] at hr
    have hzb : (z == 0) = false := by simpa using hz
    go_wp2
    go_ret
    exact ⟨by rw [hr.out]; rfl, hbw2⟩
set_option maxHeartbeats 4000000 in
set_option maxRecDepth 100000 in
theorem domFault (S : Nat → Prop) (x : Nd) (va vk : Value) (ah : Int) (w : World) (hS : ∀ b, S b → b < w.heap.size) (hx : RepV S w x va vk) (hf : Fit1 x) :
    Calls Tryz.prog 54 #[x.val va vk, .int .i64 ah] w fun e w' => e = .returned (.int .i64 (M3.oneE x (ah == 2))) ∧ Below w.heap.size w w' := by
  have hK := Lib.hid (fun W (h : RepV S W x va vk) => domKindly S x va vk W h)
  have hE := Lib.hid (fun W h1 h2 => domElement S x va vk W h1 h2 hf)
  obtain ⟨hf1, hf2, hf3, _⟩ := hf
  have hI := Lib.hid (fun W => utfIs x.text W (by omega))
  have hr : Hid (M3.oneE x (ah == 2) = M3.oneF x.kind x.name x.attrs x.text x.kids (ah == 2)) := by
    cases x; exact M3.oneE_mk _ _ _ _ _ _
  unfold M3.oneF at hr
  have hbx0 := Box.new w 41 (x.cells va vk)
  have hb0 := (Below.refl w.heap.size w).alloc (Nat.le_refl _) (.cells (x.cells va vk).toArray 41)
  have hx0 := hx.below hS hb0
  have hkf : M3.kindlyF x.kind x.name x.attrs x.text x.kids = true → x.kind = 1 ∨ x.kind = 2 ∨ x.kind = 3 := by
    intro h
    unfold M3.kindlyF at h
    by_cases h1 : x.kind = 1
    · exact Or.inl h1
    · rw [if_neg h1] at h
      by_cases h2 : x.kind = 2 ∨ x.kind = 3
      · exact Or.inr h2
      · rw [if_neg h2] at h; cases h
  generalize M3.kindlyF x.kind x.name x.attrs x.text x.kids = p at *
  cases x with | mk k n ats t ks =>
  simp only [Nd.val, Nd.kind, Nd.name, Nd.text, Nd.attrs, Nd.cells] at *
  cases p
  · replace hr : Hid (M3.oneE (.mk k n ats t ks) (ah == 2) = 7) := hr
    clear hE hI hkf
    go_enter Tryz.func54, Tryz.ntmps54
    go_wp2_with fail
    refine (hK.out _ hx0).mono ?_
    rintro e w1 ⟨rfl, hb1⟩
    go_wp2
    go_ret
    exact ⟨by rw [hr.out]; rfl, hb0.trans (hb1.mono (by simp))⟩
  replace hkf := hkf rfl
  replace hr : Hid (M3.oneE (.mk k n ats t ks) (ah == 2) = if k = 1 then M3.elemF n ats else if (M1.isB t.data.toList && !(decide (k = 2) && (M3.nilB t || (ah == 2)))) = true then 0 else 2) := hr
  rcases Or.symm hkf with hkf | hkf
  · rw [if_neg (by omega)] at hr
    clear hE
    generalize hq : M1.isB t.data.toList = q at *
    clear hq
    rcases hkf with rfl | rfl
    · replace hr : Hid (M3.oneE (.mk 2 n ats t ks) (ah == 2) = if (q && !(t.toList.isEmpty || (ah == 2))) = true then 0 else 2) := hr
      cases heb : t.toList.isEmpty
      · rw [heb] at hr
        cases hah : (ah == 2)
        · rw [hah] at hr
          go_enter Tryz.func54, Tryz.ntmps54
          go_wp2_with fail
          refine (hK.out _ hx0).mono ?_
          rintro e w1 ⟨rfl, hb1⟩
          have hbx1 := hbx0.below hb1 (by simp)
          have c0 := hbx1.cell (i := 0) rfl
          have c3 := hbx1.cell (i := 3) rfl
          have hbw1 : Below w.heap.size w w1 := hb0.trans (hb1.mono (by simp))
          clear hbx0
          replace hbx1 := Lib.hid hbx1
          go_wp2_with fail
          refine (hI.out _).mono ?_
          rintro e w2 ⟨rfl, hb2⟩
          cases q
          · have hr2 : Hid (M3.oneE (.mk 2 n ats t ks) false = 2) := by show _ = _; rw [hr.out]; rfl
            go_wp2
            go_ret
            exact ⟨by rw [hr2.out]; rfl, hbw1.trans (hb2.mono hbw1.size)⟩
          · have hr2 : Hid (M3.oneE (.mk 2 n ats t ks) false = 0) := by show _ = _; rw [hr.out]; rfl
            go_wp2
            go_ret
            exact ⟨by rw [hr2.out]; rfl, hbw1.trans (hb2.mono hbw1.size)⟩
        · rw [hah] at hr
          have hr2 : Hid (M3.oneE (.mk 2 n ats t ks) true = 2) := by show _ = _; rw [hr.out]; cases q <;> rfl
          go_enter Tryz.func54, Tryz.ntmps54
          go_wp2_with fail
          refine (hK.out _ hx0).mono ?_
          rintro e w1 ⟨rfl, hb1⟩
          have hbx1 := hbx0.below hb1 (by simp)
          have c0 := hbx1.cell (i := 0) rfl
          have c3 := hbx1.cell (i := 3) rfl
          have hbw1 : Below w.heap.size w w1 := hb0.trans (hb1.mono (by simp))
          clear hbx0
          replace hbx1 := Lib.hid hbx1
          go_wp2
          go_ret
          exact ⟨by rw [hr2.out]; rfl, hbw1⟩
      · rw [heb] at hr
        have hr2 : Hid (M3.oneE (.mk 2 n ats t ks) (ah == 2) = 2) := by show _ = _; rw [hr.out]; cases q <;> rfl
        go_enter Tryz.func54, Tryz.ntmps54
        go_wp2_with fail
        refine (hK.out _ hx0).mono ?_
        rintro e w1 ⟨rfl, hb1⟩
        have hbx1 := hbx0.below hb1 (by simp)
        have c0 := hbx1.cell (i := 0) rfl
        have c3 := hbx1.cell (i := 3) rfl
        have hbw1 : Below w.heap.size w w1 := hb0.trans (hb1.mono (by simp))
        clear hbx0
        replace hbx1 := Lib.hid hbx1
        go_wp2
        go_ret
        exact ⟨by rw [hr2.out]; rfl, hbw1⟩
    · replace hr : Hid (M3.oneE (.mk 3 n ats t ks) (ah == 2) = if (q && true) = true then 0 else 2) := hr
      go_enter Tryz.func54, Tryz.ntmps54
      go_wp2_with fail
      refine (hK.out _ hx0).mono ?_
      rintro e w1 ⟨rfl, hb1⟩
      have hbx1 := hbx0.below hb1 (by simp)
      have c0 := hbx1.cell (i := 0) rfl
      have c3 := hbx1.cell (i := 3) rfl
      have hbw1 : Below w.heap.size w w1 := hb0.trans (hb1.mono (by simp))
      clear hbx0
      replace hbx1 := Lib.hid hbx1
      go_wp2_with fail
      refine (hI.out _).mono ?_
      rintro e w2 ⟨rfl, hb2⟩
      cases q
      · have hr2 : Hid (M3.oneE (.mk 3 n ats t ks) (ah == 2) = 2) := by show _ = _; rw [hr.out]; rfl
        go_wp2
        go_ret
        exact ⟨by rw [hr2.out]; rfl, hbw1.trans (hb2.mono hbw1.size)⟩
      · have hr2 : Hid (M3.oneE (.mk 3 n ats t ks) (ah == 2) = 0) := by show _ = _; rw [hr.out]; rfl
        go_wp2
        go_ret
        exact ⟨by rw [hr2.out]; rfl, hbw1.trans (hb2.mono hbw1.size)⟩
  · subst hkf
    rw [if_pos rfl] at hr
    clear hI
    go_enter Tryz.func54, Tryz.ntmps54
    go_wp2_with fail
    refine (hK.out _ hx0).mono ?_
    rintro e w1 ⟨rfl, hb1⟩
    have hbx1 := hbx0.below hb1 (by simp)
    have c0 := hbx1.cell (i := 0) rfl
    have c1 := hbx1.cell (i := 1) rfl
    have c2 := hbx1.cell (i := 2) rfl
    have c3 := hbx1.cell (i := 3) rfl
    have c4 := hbx1.cell (i := 4) rfl
    have hbw1 : Below w.heap.size w w1 := hb0.trans (hb1.mono (by simp))
    have hx1 := hx.below hS hbw1
    have hz1 := hbx1.lt
    clear hbx0
    replace hbx1 := Lib.hid hbx1
    go_wp2_with fail
    refine (hE.out w1 (fun b h => by have := hS b h; omega) hx1).mono ?_
    rintro e w2 ⟨rfl, hb2⟩
    go_wp2
    go_ret
    exact ⟨by rw [hr.out]; rfl, hbw1.trans (hb2.mono (by omega))⟩
end Go.Proofs.YteefodibpjgicaaGreat

namespace Go.Proofs.YteefodibpjgicaaGreat
open Go.RowKit Go.Shelf
attribute [local go_sem] Oper.semAt_some
structure It (S : Nat → Prop) (w0 : World) where
  x : Nd
  ah : Int
  va : Value
  vk : Value
  rep : RepV S w0 x va vk
  fit : Fit1 x
def It.args {S : Nat → Prop} {w0 : World} (t : It S w0) : Array Value := #[t.x.val t.va t.vk, .int .i64 t.ah]
abbrev It.pair {S : Nat → Prop} {w0 : World} (t : It S w0) : Nd × Int := (t.x, t.ah)
def Tells (S : Nat → Prop) (w0 : World) : Int → List Value → List Nd → List (It S w0) → Prop
  | _, xs, [], T => xs = [] ∧ T = []
  | a, xs, .mk k n ats t ks :: r, T => ∃ (i : It S w0) (zs ys : List Value) (T1 T2 : List (It S w0)), i.x = .mk k n ats t ks ∧ i.ah = a ∧ xs = i.x.cells i.va i.vk ++ ys ∧ Row S w0 5 i.vk ks.length zs ∧ T = i :: (T1 ++ T2) ∧ Tells S w0 0 zs ks T1 ∧ Tells S w0 k ys r T2
termination_by _ _ l _ => SizeOf.sizeOf l
theorem Tells.cons_iff {S : Nat → Prop} {w0 : World} {a : Int} {xs : List Value} {x : Nd} {r : List Nd} {T : List (It S w0)} :
    Tells S w0 a xs (x :: r) T ↔ ∃ (i : It S w0) (zs ys : List Value) (T1 T2 : List (It S w0)), i.x = x ∧ i.ah = a ∧ xs = i.x.cells i.va i.vk ++ ys ∧ Row S w0 5 i.vk x.kids.length zs ∧ T = i :: (T1 ++ T2) ∧ Tells S w0 0 zs x.kids T1 ∧ Tells S w0 x.kind ys r T2 := by
  cases x; rw [Tells]; rfl
def FitN : List Nd → Prop
  | [] => True
  | .mk k n a t ks :: r => Fit1 (.mk k n a t ks) ∧ FitN ks ∧ FitN r
termination_by l => SizeOf.sizeOf l
theorem fitN_nil : FitN [] := by rw [FitN]; trivial
theorem fitN_cons {x : Nd} {r : List Nd} : FitN (x :: r) ↔ Fit1 x ∧ FitN x.kids ∧ FitN r := by cases x; rw [FitN]; rfl
theorem tells_of {S : Nat → Prop} {w0 : World} (l : List Nd) : ∀ (a : Int) (xs : List Value), RepC S w0 xs l → FitN l → ∃ T, Tells S w0 a xs l T ∧ T.map It.pair = M3.seqN a l := by
  induction l using Nd.ind with
  | h0 => intro a xs h _; rw [RepC] at h; exact ⟨[], by rw [Tells]; exact ⟨h, rfl⟩, by rw [M3.seqN_nil]; rfl⟩
  | h1 k n ats t ks r ih1 ih2 =>
    intro a xs h hf
    obtain ⟨va, vk, ys, h1, h2, ⟨zs, h3, h4⟩, h5⟩ := RepC.cons_iff.1 h
    obtain ⟨f1, f2, f3⟩ := fitN_cons.1 hf
    obtain ⟨T1, t1, e1⟩ := ih1 0 zs h4 f2
    obtain ⟨T2, t2, e2⟩ := ih2 k ys h5 f3
    refine ⟨⟨.mk k n ats t ks, a, va, vk, ⟨h2, ⟨zs, h3, h4⟩⟩, f1⟩ :: (T1 ++ T2), Tells.cons_iff.2 ⟨_, zs, ys, T1, T2, rfl, rfl, by rw [h1]; rfl, h3, rfl, t1, t2⟩, ?_⟩
    rw [M3.seqN_cons, List.map_cons, List.map_append, e1, e2]
    rfl
theorem room_none {F : Fence} (hd : F.depth = none) (k : Nat) : F.room k := fun d h => by rw [hd] at h; cases h
theorem yield_deep {F : Fence} (hd : F.depth = none) {m : Nat} (m' : Nat) {P : Program} {l : Nat} {args : Array Value} {W : World} {R : Ending → World → Prop} (h : YieldAt F m P l args W R) : YieldAt F m' P l args W R := by
  obtain ⟨fn, tmps, assign, body, hy, hR⟩ := h
  exact ⟨fn, tmps, assign, body, hy, hR.1, fun c cs _ => hR.2 c cs (room_none hd _)⟩
theorem weight_mem {x : Nd} {l : List Nd} (h : x ∈ l) : M3.weight x.kids < M3.weight l := by
  induction l with
  | nil => cases h
  | cons y r ih =>
    rw [M3.weight_cons]
    rcases List.mem_cons.1 h with rfl | h
    · omega
    · have := ih h; omega
structure Kp5 (n₀ n₁ : Nat) (W W' : World) : Prop where
  low : Below n₀ W W'
  five : ∀ (b : Nat) (cs : Array Value) (t : TypeId), n₁ ≤ b → cs.size = 5 → W.heap[b]? = some (.cells cs t (0, 0)) → W'.heap[b]? = some (.cells cs t (0, 0))
section
variable {n₀ n₁ : Nat} {A B C : World}
theorem Kp5.refl (A : World) : Kp5 n₀ n₁ A A := ⟨Below.refl _ _, fun _ _ _ _ _ h => h⟩
theorem Kp5.trans (h : Kp5 n₀ n₁ A B) (k : Kp5 n₀ n₁ B C) : Kp5 n₀ n₁ A C := ⟨h.low.trans k.low, fun b cs t hb hc h1 => k.five b cs t hb hc (h.five b cs t hb hc h1)⟩
theorem Kp5.of_below (h : Below A.heap.size A B) (hn : n₀ ≤ A.heap.size) : Kp5 n₀ n₁ A B := ⟨h.mono hn, fun b _ _ _ _ h1 => (h.block b (Array.getElem?_eq_some_iff.1 h1).1).trans h1⟩
theorem Kp5.box (h : Kp5 n₀ n₁ A B) {g : Nat} {t : TypeId} {x : Nd} {va vk : Value} (hb : Box A g t (x.cells va vk)) (hg : n₁ ≤ g) : Box B g t (x.cells va vk) := h.five g _ t hg rfl hb
theorem kp5_b {w : World} (hn : n₀ ≤ w.heap.size) (W : World) (l : Nat) (o o' : Obj) (hl : w.heap.size ≤ l) (h : W.heap[l]? = some o) (hc : o.isCells = false) (hw : o.isWalk = false) : Kp5 n₀ n₁ W (W.putObj l o') :=
  ⟨belowK_b hn W l o o' hl h hc hw, fun b _ _ _ _ h1 => ((grownBy_putObj' W l o').block b (Array.getElem?_eq_some_iff.1 h1).1 (fun e => by cases e; rw [h1] at h; cases h; cases hc)).trans h1⟩
end
set_option maxRecDepth 100000 in
set_option maxHeartbeats 4000000 in
theorem domTell (F : Fence) (hd : F.depth = none) (h6 : F.fn 74) (hro : F.round = none) (S : Nat → Prop) (w0 : World) (l0 n₀ n₁ N : Nat) (hS : ∀ b, S b → b < n₀) (J Jx : List (It S w0) → World → Prop) (B0 : Nat) (hJ : AbidesFrom B0 J)
    (hY : ∀ m pre x W, J pre W → pre.length < N → YieldAt F m Tryz.prog l0 x.args W fun e W' =>
      (e = .returned (.bool true) ∧ J (pre ++ [x]) W' ∧ Kp5 n₀ n₁ W W') ∨ (e = .returned (.bool false) ∧ Jx (pre ++ [x]) W')) (wt : Nat) :
    ∀ (l : List Nd), M3.weight l < wt → ∀ (n : Nat) (v : Value) (zs : List Value) (T : List (It S w0)) (pre : List (It S w0)) (W : World), Row S w0 5 v l.length zs → Tells S w0 0 zs l T → Below n₀ w0 W → n₀ ≤ n₁ → n₁ ≤ W.heap.size → J pre W → pre.length + T.length ≤ N →
      CallsIn F n Tryz.prog 74 #[v, .func (.yield l0) #[] #[]] W fun e W' =>
        (e = .returned (.bool true) ∧ J (pre ++ T) W' ∧ Kp5 n₀ n₁ W W') ∨ (e = .returned (.bool false) ∧ ∃ q, q <+: T ∧ Jx (pre ++ q) W') := by
  induction wt with
  | zero => intro l h; omega
  | succ wt ih =>
    intro l hwt n v zs T pre W hrow ht hb hn0 hn1 hj hN
    obtain ⟨a, cap, rfl⟩ := hrow.slice
    obtain ⟨_, hlc, hcm⟩ := hrow.len
    have hdd : ∀ k : Nat, (F.depth.isSome = true → 1 ≤ k) := fun k h => by rw [hd] at h; cases h
    refine callsIn_of_wp Tryz.func74 rfl h6 ?_ hro
    simp only [Tryz.ntmps74, List.size_toArray, List.length_cons, List.length_nil, Nat.reduceAdd, Nat.reduceSub, Array.replicate_succ, Array.replicate_zero, List.push_toArray, List.append_toArray, List.nil_append, List.cons_append]
    gi_wp2
    gi_loopw [5, 10] (fun u5 u10 wr => ∃ (i : Nat) (ah : Int) (T1 T2 : List (It S w0)), i ≤ l.length ∧ u10 = .int .i64 (i : Int) ∧ u5 = .int .i64 ah ∧ T = T1 ++ T2 ∧ Tells S w0 ah (zs.drop (i * 5)) (l.drop i) T2 ∧ J (pre ++ T1) wr ∧ Kp5 n₀ n₁ W wr) (fun _ u10 _ => l.length - (intOf u10).toNat)
    case atStart => exact ⟨0, 0, [], T, by omega, rfl, rfl, rfl, ht, by simpa using hj, Kp5.refl _⟩
    case round =>
      obtain ⟨i, ah, T1, T2, hi, rfl, rfl, hT, htl, hJ1, hk1⟩ := hrel
      have hz1 := hk1.low.size
      by_cases hlt : i < l.length
      · have hdr : l.drop i = l[i] :: l.drop (i + 1) := List.drop_eq_getElem_cons hlt
        rw [hdr] at htl
        obtain ⟨it, zs', ys, Ta, Tb, e1, rfl, e2, hrk, rfl, hta, htb⟩ := Tells.cons_iff.1 htl
        have hwk := weight_mem (List.getElem_mem hlt)
        rw [← e1] at hwk hrk hta htb
        have hys : ys = zs.drop ((i + 1) * 5) := by
          rw [show (i + 1) * 5 = i * 5 + 5 by omega, ← List.drop_drop, e2]; rfl
        subst hys
        clear htl hdr e1
        rcases it with ⟨x, ah, va, vk, hrep, hfit⟩
        obtain ⟨a2, cap2, rfl⟩ := hrep.at_.slice
        obtain ⟨a3, cap3, rfl⟩ := hrep.kids.slice
        dsimp only at *
        have hbw := hb.trans hk1.low
        obtain ⟨_, a', cap', hsl, _, _, _, hcl⟩ := hrow.keep (w' := wr) (fun b h => (hb.trans hk1.low).block b (hS b h))
        cases hsl
        obtain ⟨b, off, rfl, hSb, hcl⟩ := hcl (by omega)
        have hz5 : ∀ j u, (x.cells (.slice a2 x.attrs.length cap2) (.slice a3 x.kids.length cap3))[j]? = some u → wr.cell? ⟨b, off + i * 5 + j, none⟩ = some u := by
          intro j u hu
          rw [Nat.add_assoc]
          refine hcl _ u ?_
          rw [← List.getElem?_drop, e2, List.getElem?_append_left (by have := (List.getElem?_eq_some_iff.1 hu).1; exact this)]
          exact hu
        have c0 := hz5 0 _ rfl
        have c1 := hz5 1 _ rfl
        have c2 := hz5 2 _ rfl
        have c3 := hz5 3 _ rfl
        have c4 := hz5 4 _ rfl
        simp only [Nat.add_zero] at c0
        have hbl := hS b hSb
        have hJa : J (pre ++ T1) (wr.alloc (.cells (x.cells (.slice a2 x.attrs.length cap2) (.slice a3 x.kids.length cap3)).toArray 41)) := hJ _ wr _ none hJ1 (World.grownBy_alloc _ _ _) (fun r e => by cases e)
        have hbx := Box.new wr 41 (x.cells (.slice a2 x.attrs.length cap2) (.slice a3 x.kids.length cap3))
        have hlen : (pre ++ T1).length < N := by rw [hT] at hN; simp at hN ⊢; omega
        have hyy := fun m => yield_deep hd m (hY m _ ⟨x, ah, _, _, hrep, hfit⟩ _ hJa hlen)
        obtain ⟨fn, tmps, assign, body, hy, hR⟩ := hyy (n - 1)
        dsimp only [It.args, Nd.val] at hy
        have hihk := ih x.kids (by omega) (n - 1) (.slice a3 x.kids.length cap3) zs' Ta
        have hkc : Kp5 n₀ n₁ W (wr.alloc (.cells (x.cells (.slice a2 x.attrs.length cap2) (.slice a3 x.kids.length cap3)).toArray 41)) := hk1.trans (Kp5.of_below ((Below.refl _ _).alloc (Nat.le_refl _) _) (by omega))
        replace hihk := Lib.hid hihk
        replace hz5 := Lib.hid hz5
        replace hcl := Lib.hid hcl
        replace hT := Lib.hid hT
        replace e2 := Lib.hid e2
        clear hyy
        gi_wp2_with (fail)
        refine hR.mono ?_
        clear hR
        rintro e W2 (⟨rfl, hJ2, hk2⟩ | ⟨rfl, hx2⟩)
        · have hb2 := hk2.box hbx (by omega)
          have d4 := hb2.cell (i := 4) rfl
          have hJ2' := hJ2
          have hz2 := hk2.low.size
          simp only [World.size_alloc] at hz2
          have hih2 := hihk.out (pre ++ T1 ++ [⟨x, ah, _, _, hrep, hfit⟩]) W2 hrk hta (hb.trans (hkc.trans hk2).low) hn0 (by omega) hJ2 (by have := hT.out; rw [this] at hN; simp at hN ⊢; omega)
          replace hih2 := Lib.hid hih2
          clear hihk
          gi_wp2_with (fail)
          refine hih2.out.mono ?_
          rintro e W3 (⟨rfl, hJ3, hk3⟩ | ⟨rfl, q, hq, hx3⟩)
          · have hb3 := hk3.box hb2 (by omega)
            have f0 := hb3.cell (i := 0) rfl
            clear hih2 d4
            gi_wp2_with (fail)
            go_roundw
            case rel => exact ⟨i + 1, x.kind, T1 ++ (⟨x, ah, _, _, hrep, hfit⟩ :: Ta), Tb, by omega, by go_num, rfl, by rw [hT.out]; simp, htb, by simpa [List.append_assoc] using hJ3, (hkc.trans hk2).trans hk3⟩
            case measure => simp [intOf]; omega
          · gi_wp2_with (fail)
            go_ret
            refine .inr ⟨rfl, T1 ++ ⟨x, ah, _, _, hrep, hfit⟩ :: q, ?_, by simpa [List.append_assoc] using hx3⟩
            obtain ⟨q2, rfl⟩ := hq
            exact ⟨q2 ++ Tb, by rw [hT.out]; simp⟩
        · first
          | (refine ⟨fun _ h => (by cases h), ?_⟩; gi_wp2_with (fail))
          | gi_wp2_with (fail)
          go_ret
          refine .inr ⟨rfl, T1 ++ [⟨x, ah, _, _, hrep, hfit⟩], ?_, by simpa [List.append_assoc] using hx2⟩
          exact ⟨Ta ++ Tb, by rw [hT.out]; simp⟩
      · have hil : i = l.length := by omega
        subst hil
        rw [List.drop_length, Tells] at htl
        obtain ⟨_, rfl⟩ := htl
        have hT2 : T = T1 := by rw [hT]; simp
        clear hT
        replace hT2 := Lib.hid hT2
        gi_wp2_with (fail)
        go_ret
        exact .inl ⟨rfl, by rw [hT2.out]; exact hJ1, hk1⟩
set_option maxHeartbeats 1000000 in
theorem domEach1 (F : Fence) (hd : F.depth = none) (n : Nat) (h5 : F.fn 73) (h6 : F.fn 74) (hro : F.round = none) (S : Nat → Prop) (w0 : World) (l0 Bt n₀ n₁ : Nat) (hS : ∀ b, S b → b < n₀) (v : Value) (l : List Nd) (zs : List Value) (T : List (It S w0)) (J Jx : List (It S w0) → World → Prop) (B0 : Nat) (hJ : AbidesFrom B0 J)
    (hY : ∀ pre x W, J pre W → pre.length < T.length → YieldAt F (n - 1) Tryz.prog l0 x.args W fun e W' =>
      (e = .returned (.bool true) ∧ J (pre ++ [x]) W' ∧ Kp5 n₀ n₁ W W') ∨ (e = .returned (.bool false) ∧ Jx (pre ++ [x]) W'))
    (W : World) (hBt : W.cell? ⟨Bt, 0, none⟩ = some v) (hrow : Row S w0 5 v l.length zs) (ht : Tells S w0 0 zs l T) (hb : Below n₀ w0 W) (hn0 : n₀ ≤ n₁) (hn1 : n₁ ≤ W.heap.size) (h0 : J [] W) :
    CallsIn F n Tryz.prog 73 #[.func (.yield l0) #[] #[], .pointer (some ⟨Bt, 0, none⟩)] W fun e W' => (∃ v, e = .returned v) ∧
      ((∃ ys, ys = T ∧ J ys W') ∨ (∃ pre, pre <+: T ∧ Jx pre W')) := by
  have hdd : ∀ k : Nat, (F.depth.isSome = true → 1 ≤ k) := fun k h => by rw [hd] at h; cases h
  have hp := domTell F hd h6 hro S w0 l0 n₀ n₁ T.length hS J Jx B0 hJ (fun m pre x W hj hl => yield_deep hd m (hY pre x W hj hl)) (M3.weight l + 1) l (by omega) (n - 1) v zs T [] W hrow ht hb hn0 hn1 h0 (by simp)
  refine callsIn_of_wp Tryz.func73 rfl h5 ?_ hro
  simp only [Tryz.ntmps73, List.size_toArray, List.length_cons, List.length_nil, Nat.reduceAdd, Nat.reduceSub, Array.replicate_succ, Array.replicate_zero, List.push_toArray, List.append_toArray, List.nil_append, List.cons_append]
  replace hp := Lib.hid hp
  gi_wp2_with (fail)
  refine hp.out.mono ?_
  rintro e W1 (⟨rfl, hJ1, _⟩ | ⟨rfl, q, hq, hx⟩)
  · gi_wp2_with (fail)
    go_end0
    exact ⟨⟨_, rfl⟩, .inl ⟨_, rfl, by simpa using hJ1⟩⟩
  · gi_wp2_with (fail)
    go_end0
    exact ⟨⟨_, rfl⟩, .inr ⟨q, hq, by simpa using hx⟩⟩
set_option maxHeartbeats 1000000 in
theorem domEach (F : Fence) (n : Nat) (h4 : F.fn 53) (hro : F.round = none) (a : Option Addr) (len cap : Nat) (w : World) :
    CallsIn F n Tryz.prog 53 #[.slice a len cap] w fun e w' => e = .returned (.func (.func 73) #[] #[.pointer (some ⟨w.heap.size, 0, none⟩)]) ∧ w.alloc (.cells #[.slice a len cap] 25) = w' := by
  refine callsIn_of_wp Tryz.func53 rfl h4 ?_ hro
  simp only [Tryz.ntmps53, List.size_toArray, List.length_cons, List.length_nil, Nat.reduceAdd, Nat.reduceSub, Array.replicate_succ, Array.replicate_zero, List.push_toArray, List.append_toArray, List.nil_append, List.cons_append]
  gi_wp2
  go_ret
  exact ⟨rfl, rfl⟩
theorem eachStops (F : Fence) (hd : F.depth = none) (n : Nat) (h5 : F.fn 73) (h6 : F.fn 74) (hro : F.round = none) (S : Nat → Prop) (w0 : World) (Bt n₀ n₁ : Nat) (hS : ∀ b, S b → b < n₀) (v : Value) (l : List Nd) (zs : List Value) (T : List (It S w0)) (w : World)
    (hBt : w.cell? ⟨Bt, 0, none⟩ = some v) (hrow : Row S w0 5 v l.length zs) (ht : Tells S w0 0 zs l T) (hb : Below n₀ w0 w) (hn0 : n₀ ≤ n₁) (hn1 : n₁ ≤ w.heap.size) :
    SeqStopsK F n Tryz.prog 73 #[.pointer (some ⟨Bt, 0, none⟩)] (It.args (S := S) (w0 := w0)) (Kp5 n₀ n₁) (fun ys => ys = T) (fun pre => pre <+: T) T.length w := fun l0 J Jx W hW hJ _ hY h0 =>
  domEach1 F hd n h5 h6 hro S w0 l0 Bt n₀ n₁ hS v l zs T J Jx W.heap.size hJ hY W ((hW.cell (p := ⟨Bt, 0, none⟩) (World.block_lt_of_cell? w _ hBt)).trans hBt) hrow ht (hb.trans (hW.mono (by omega))) hn0 (Nat.le_trans hn1 hW.size) h0
end Go.Proofs.YteefodibpjgicaaGreat

namespace Go.Proofs.YteefodibpjgicaaGreat
open Go.RowKit Go.Shelf
attribute [local go_sem] Oper.semAt_some
theorem kf_of_below {B : Nat} {W W' : World} (h : Below W.heap.size W W') : KeepsFrom B W W' := ⟨h.size, fun k _ _ hk _ => (h.block k (Array.getElem?_eq_some_iff.1 hk).1).trans hk⟩
theorem ownFrom_size {β : Type} (B k : Nat) : OwnFrom B (fun (_ : β) W => k ≤ W.heap.size) := fun _ _ _ _ hs hg _ => Nat.le_trans hs hg.size
theorem box_own {X Y : World} {row : Option Nat} {g : Nat} {t : TypeId} {cs : List Value} (h : Box X g t cs) (hg : X.grownBy Y row) (hr : ∀ r, row = some r → ∃ o : Obj, X.heap[r]? = some o ∧ o.isCells = false) : Box Y g t cs :=
  h.keep (hg.block g h.lt (fun e => by obtain ⟨o, ho, hc⟩ := hr g e.symm; rw [show X.heap[g]? = _ from h] at ho; cases ho; cases hc))
theorem It.shapes {S : Nat → Prop} {w0 : World} (x : It S w0) : (∃ a c, x.va = .slice a x.x.attrs.length c) ∧ ∃ a c, x.vk = .slice a x.x.kids.length c := ⟨x.rep.at_.slice, x.rep.kids.slice⟩
end Go.Proofs.YteefodibpjgicaaGreat

namespace Go.Proofs.YteefodibpjgicaaGreat
open Go.RowKit Go.Shelf
attribute [local go_sem] Oper.semAt_some
theorem firstE_prefix {a b : List (Nd × Int)} (h : a <+: b) (hn : M3.firstE a ≠ 0) : M3.firstE b = M3.firstE a := by
  obtain ⟨c, rfl⟩ := h
  rw [M3.firstE_append, if_pos hn]
theorem firstE_snoc (a : List (Nd × Int)) (p : Nd × Int) (h : M3.firstE a = 0) : M3.firstE (a ++ [p]) = M3.oneE p.1 (p.2 == 2) := by
  rw [M3.firstE_append, if_neg (by simpa using h), M3.firstE, M3.firstE]
  split
  · rfl
  · rename_i h; simp at h; exact h.symm
set_option maxRecDepth 100000 in
set_option maxHeartbeats 4000000 in
theorem domMay_in (n : Nat) (hn : 4 ≤ n) (S : Nat → Prop) (v : Value) (l : List Nd) (w : World) (hS : ∀ b, S b → b < w.heap.size) (hr : RepN S w v l) (hf : FitN l) :
    CallsIn Fence.wide n Tryz.prog 36 #[v] w fun e W' => e = .returned (.int .i64 (M3.mayE false l)) ∧ Below w.heap.size w W' := by
  obtain ⟨zs, hrow, hrep⟩ := hr
  obtain ⟨T, hT, hTm⟩ := tells_of (S := S) (w0 := w) l 0 zs hrep hf
  obtain ⟨a, cap, rfl⟩ := hrow.slice
  have hfirst : Hid (M3.firstE (T.map It.pair) = M3.mayE false l) := by
    show _ = _
    rw [hTm, M3.may_eq]; rfl
  clear hTm
  have hro : Fence.wide.round = none := rfl
  have h1 : 1 ≤ n := by omega
  refine callsIn_of_wp_marks Tryz.func36 rfl trivial ?_ hro
  simp only [Tryz.ntmps36, List.size_toArray, List.length_cons, List.length_nil, Nat.reduceAdd, Nat.reduceSub, Array.replicate_succ, Array.replicate_zero, List.push_toArray, List.append_toArray, List.nil_append, List.cons_append]
  gi_wp2_with (refine ⟨trivial, ?_⟩; gi_at_call 53; refine (domEach Fence.wide (n - 1) trivial hro _ _ _ _).mono ?_; rintro e w' ⟨rfl, rfl⟩)
  have bW := (Boxed.new w 32 (.int .i64 0)).alloc (.cells #[.slice a l.length cap] 25)
  have bL := Boxed.new (w.alloc (.cells #[.int .i64 0] 32)) 25 (.slice a l.length cap)
  have hB0 : Below w.heap.size w ((w.alloc (.cells #[.int .i64 0] 32)).alloc (.cells #[.slice a l.length cap] 25)) := ((Below.refl _ w).alloc (Nat.le_refl _) _).alloc (by simp) _
  have hsz : ((w.alloc (.cells #[.int .i64 0] 32)).alloc (.cells #[.slice a l.length cap] 25)).heap.size = w.heap.size + 2 := by simp
  simp only [World.size_alloc] at bL
  obtain ⟨W0, hW0⟩ : ∃ W0, (w.alloc (.cells #[.int .i64 0] 32)).alloc (.cells #[.slice a l.length cap] 25) = W0 := ⟨_, rfl⟩
  rw [hW0] at bW bL hB0 hsz ⊢
  clear hW0
  refine wpIn_rangeFunc_ownH hro h1 (gf := 73) (lb := #[.pointer (some ⟨w.heap.size + 1, 0, none⟩)]) rfl trivial (enters_of Tryz.func73 (by kernel_rfl) rfl)
    (eachStops Fence.wide rfl (n - 1) trivial trivial hro S w (w.heap.size + 1) w.heap.size (w.heap.size + 2) hS _ l zs T W0 bL.cell hrow hT hB0 (by omega) (by omega))
    (fun h k => h.trans k) (kp5_b (by omega)) (Below.refl _ _) (fun _ => rfl)
    (fun pre W => (Boxed W w.heap.size 32 (.int .i64 0) ∧ Below w.heap.size w W ∧ w.heap.size + 2 ≤ W.heap.size) ∧ M3.firstE (pre.map It.pair) = 0)
    (fun c pre W => (Boxed W w.heap.size 32 (.int .i64 (M3.firstE (pre.map It.pair))) ∧ Below w.heap.size w W) ∧ (c = .ret ∧ M3.firstE (pre.map It.pair) ≠ 0))
    (OwnFrom.and (OwnFrom.and (Own.from (boxed_own _ _ (fun _ => .int .i64 0)) _) (OwnFrom.and (ownFrom_below (Nat.le_refl _) (by omega)) (ownFrom_size _ _))) (ownFrom_pure _ _))
    (fun c => OwnFrom.and (OwnFrom.and (Own.from (boxed_own _ _ (fun (s : List (It S w)) => .int .i64 (M3.firstE (s.map It.pair)))) _) (ownFrom_below (Nat.le_refl _) (by omega))) (ownFrom_pure _ _))
    ⟨⟨bW, hB0, by omega⟩, rfl⟩
    (fun x a' W => ∃ Bx, w.heap.size + 2 ≤ Bx ∧ Box W Bx 41 (x.x.cells x.va x.vk) ∧ a' = { tmps := #[.slice a l.length cap, undef, .pointer (some ⟨w.heap.size, 0, none⟩), .pointer (some ⟨Bx, 0, none⟩), .int .i64 x.ah, undef, .slice a l.length cap, .func (.func 73) #[] #[.pointer (some ⟨w.heap.size + 1, 0, none⟩)], x.x.val x.va x.vk, .int .i64 x.ah, undef, undef, undef, undef, undef, undef], defers := [] })
    (fun x a' _ X Y row hs hg hr => by obtain ⟨Bx, h1, h2, h3⟩ := hs; exact ⟨Bx, h1, box_own h2 hg (fun r e => (hr r e).2), h3⟩)
    ?assign ?body ?done ?stop
  case assign =>
    rintro l0 pre x W K ⟨⟨bW1, hB1, hl1⟩, hp⟩ hK
    obtain ⟨⟨a1, c1, h1⟩, ⟨a2, c2, h2⟩⟩ := x.shapes
    have hx : It.args x = #[x.x.val x.va x.vk, .int .i64 x.ah] := rfl
    rw [hx]
    replace hK := Lib.hid hK
    replace hp := Lib.hid hp
    gi_wp2
    have hbox := Box.new W 41 (x.x.cells x.va x.vk)
    rw [h1, h2] at hbox
    exact hK.out _ _ (kf_of_below ((Below.refl _ W).alloc (Nat.le_refl _) _)) (Kp5.of_below ((Below.refl _ W).alloc (Nat.le_refl _) _) hB1.size) ⟨⟨bW1.alloc _, hB1.alloc hB1.size _, by simp; omega⟩, hp.out⟩ ⟨W.heap.size, hl1, by rw [h1, h2]; exact hbox, by rw [h1, h2]⟩
  case body =>
    rintro l0 pre x a' W hl ⟨r, hr⟩ ⟨⟨bW1, hB1, hl1⟩, hp⟩ ⟨Bx, hBx, bX, rfl⟩ hlt
    have hrep1 := x.rep.below hS hB1
    have hft := x.fit
    have hsn := firstE_snoc (pre.map It.pair) (It.pair x) hp
    have hmp : (pre ++ [x]).map It.pair = pre.map It.pair ++ [It.pair x] := by simp
    rw [← hmp] at hsn
    replace hsn := Lib.hid hsn
    obtain ⟨⟨a1, c1, h1⟩, ⟨a2, c2, h2⟩⟩ := x.shapes
    have hF := Lib.hid (fun W hS hr => domFault S x.x x.va x.vk x.ah W hS hr hft)
    rw [h1, h2] at bX hF hrep1
    replace h1 := Lib.hid h1
    replace h2 := Lib.hid h2
    have cX0 := bX.cell (i := 0) rfl
    have cX1 := bX.cell (i := 1) rfl
    have cX2 := bX.cell (i := 2) rfl
    have cX3 := bX.cell (i := 3) rfl
    have cX4 := bX.cell (i := 4) rfl
    have hz1 := hB1.size
    clear hp hmp
    gi_wp2_with (fail)
    refine ⟨trivial, (fun h => by cases h), ?_⟩
    refine (CallsIn.inRound l0 (callsIn_wide.2 (hF.out W (fun b h => by have := hS b h; omega) hrep1))).mono ?_
    rintro e w1 ⟨rfl, hb1⟩
    have bW2 : Boxed w1 w.heap.size 32 (.int .i64 0) := (hb1.block _ bW1.lt).trans bW1
    have cW := bW2.cell
    have fW := bW2.frozen
    have hB2 := hB1.trans (hb1.mono hz1)
    have hl2 : w.heap.size + 2 ≤ w1.heap.size := by have := hb1.size; omega
    have hkf := kf_of_below (B := W0.heap.size) hb1
    have hkp := Kp5.of_below (n₁ := w.heap.size + 2) hb1 hz1
    change Hid (M3.firstE ((pre ++ [x]).map It.pair) = M3.oneE x.x (x.ah == 2)) at hsn
    generalize M3.oneE x.x (x.ah == 2) = z at *
    by_cases hz : z = 0
    · subst hz
      gi_wp2_with (fail)
      exact ⟨hkf, hkp, ⟨bW2, hB2, hl2⟩, hsn.out⟩
    · have hzb : (z == 0) = false := by simpa using hz
      gi_wp2_with (fail)
      exact ⟨hkf.trans ((KeepsOthers.setCell _ _ _).from _), ⟨by rw [hsn.out]; exact bW2.set _, hB2.setCell (p := ⟨w.heap.size, 0, none⟩) (Nat.le_refl _) _⟩, rfl, by rw [hsn.out]; exact hz⟩
  case done =>
    rintro D ys W hD rfl ⟨⟨bW1, hB1, hl1⟩, hp⟩ hK
    have hp2 := Lib.hid (hfirst.out.symm.trans hp)
    have hcr := bW1.cell
    have hfr := bW1.frozen
    clear hp
    gi_wp2
    have hK' := (KeepsOthers.setCell W ⟨w.heap.size, 0, none⟩ (.int .i64 0)).same D _ hK rfl
    refine ⟨by simp, .inl ⟨_, _, rfl, run_takeDeferred hK', ?_⟩⟩
    have hc5 := cell_kept (World.cell?_setCell_same' W ⟨w.heap.size, 0, none⟩ (.int .i64 0) (by rw [hcr]; rfl)) (grownBy_putObj' _ D (.deferred none)) (fun r e => by cases e; exact ⟨_, hK', rfl⟩)
    refine ⟨.int .i64 0, ?_, by rw [hp2.out], (hB1.setCell (p := ⟨w.heap.size, 0, none⟩) (Nat.le_refl _) _).trans (belowK_b (w := w) (Nat.le_refl _) _ D _ _ (by omega) hK' rfl rfl)⟩
    simp [results, Tryz.f36, go_sem, hc5]
  case stop =>
    rintro D c pre W hD hpre ⟨⟨bW1, hB1⟩, rfl, hne⟩ hK
    have hfe : M3.firstE (pre.map It.pair) = M3.mayE false l := by
      rw [← hfirst.out]
      exact (firstE_prefix (hpre.map It.pair) hne).symm
    rw [hfe] at bW1
    have hcr := bW1.cell
    clear hfe hne
    gi_wp2
    refine ⟨by simp, .inl ⟨_, _, rfl, run_takeDeferred hK, ?_⟩⟩
    have hc5 := cell_kept hcr (grownBy_putObj' _ D (.deferred none)) (fun r e => by cases e; exact ⟨_, hK, rfl⟩)
    refine ⟨.int .i64 (M3.mayE false l), ?_, rfl, hB1.trans (belowK_b (w := w) (Nat.le_refl _) W D _ _ (by omega) hK rfl rfl)⟩
    simp [results, Tryz.f36, go_sem, hc5]
theorem domMay (S : Nat → Prop) (v : Value) (l : List Nd) (w : World) (hS : ∀ b, S b → b < w.heap.size) (hr : RepN S w v l) (hf : FitN l) :
    Calls Tryz.prog 36 #[v] w fun e W' => e = .returned (.int .i64 (M3.mayE false l)) ∧ Below w.heap.size w W' :=
  callsIn_wide.1 (domMay_in 4 (by omega) S v l w hS hr hf)
end Go.Proofs.YteefodibpjgicaaGreat
