/- Texts joined: Ref05e, Math5b, Ref05g, Ref05h, MapKit, Refs, Refs2, Utf, Shelf3, Dom1, Math3b, Dom2, Dom3, Math3c, Dom4, Dom5, Tell, Math4, Wr1. -/
import Derived.Deep.RegionHeld3
import Derived.Deep.AppendLies
import Derived.Maps.OwnSet
import Derived.Lib.Hide
import Derived.Test.YtlknmnldblodbaaRows
import Derived.BigCall
import Derived.Deep.QuietTactic
import Derived.BigQuiet
import Derived.IntWalk
import Derived.Shelf.Strings.Runes
import Derived.Shelf.Strings.IndexAny
import Derived.Shelf.Strings.AsciiSet
import Derived.Shelf.Strings.IndexAnyAll
import Derived.Outline
import Derived.Lib.IndexAny
import Derived.WalkMore
import Derived.RangeFuncNested
import Derived.RangeFuncBound
import Derived.RangeFuncLeaves
import Derived.Shelf.Abstract
import Derived.OwnWalkIn
import Derived.TacticsInMore
import Derived.LoopNIn
import Derived.LoopIn
import Derived.Test.YtlknmnldblodbaaH1
import Derived.Test.YtlknmnldblodbaaH2
/- Reference 5: where a raw element ends. -/
namespace Go.Proofs.Ytlknmnldblodbaa
open Go.RowKit

def endV : Option Nat → Int
  | some k => (k : Int)
  | none => -1
def EndsPost (o : Option Nat) (w : World) (e : Ending) (w' : World) : Prop := e = .returned (.int .i64 (endV o)) ∧ Below w.heap.size w w'
def edgeB (d : UInt8) : Bool := M5.blankB d || d == 47 || d == 62
theorem ends_step (wd : List UInt8) (s : ByteArray) (i n : Nat) (hn : wd.length = n) (h : i + n < s.size) : M5.endsL wd (s.data.toList.drop i) = if (M1.fold ((s.data.toList.drop i).take n) == wd && edgeB s[i + n]) then some 0 else (M5.endsL wd (s.data.toList.drop (i + 1))).map (· + 1) := by
  subst hn
  have hd : (s.data.toList.drop i).drop wd.length = s[i + wd.length] :: s.data.toList.drop (i + wd.length + 1) := by
    rw [List.drop_drop]; exact drop_cons s _ h
  rw [drop_cons s i (by omega)] at hd ⊢
  rw [M5.endsL, hd]
  rfl
theorem ends_short (wd l : List UInt8) (h : l.length ≤ wd.length) : M5.endsL wd l = none := by
  induction l with
  | nil => rfl
  | cons c r ih =>
    rw [M5.endsL, List.drop_of_length_le h, ih (by simp only [List.length_cons] at h; omega)]
    simp
set_option maxHeartbeats 2000000 in
set_option maxRecDepth 100000 in
theorem ref05Ends (s nm : ByteArray) (w : World) (hs : s.size ≤ 1073741824) (hn : nm.size ≤ 1073741824) :
    Calls Try.prog 21 #[.string s, .string nm] w (EndsPost (M5.endsL ([60, 47] ++ nm.data.toList) s.data.toList) w) := by
  obtain ⟨wd, hwd⟩ : ∃ wd : List UInt8, wd = [60, 47] ++ nm.data.toList := ⟨_, rfl⟩
  have hwl : wd.length = 2 + nm.size := by rw [hwd, List.length_append]; show 2 + nm.size = _; rfl
  obtain ⟨R, h0⟩ : ∃ R, Hid (R = (M5.endsL wd (s.data.toList.drop 0)).map (· + 0)) := ⟨(M5.endsL wd (s.data.toList.drop 0)).map (· + 0), Lib.hid rfl⟩
  rw [← hwd, show M5.endsL wd s.data.toList = R by rw [h0.out]; simp]
  have hW : Hid (((⟨#[60, 47]⟩ : ByteArray) ++ nm).toList = wd) := by show _ = _; rw [Lib.toList_data, ByteArray.data_append, Array.toList_append, hwd]
  replace hwd := Lib.hid hwd
  have hadd : ¬ 9223372036854775807 < 2 + nm.size := by omega
  obtain ⟨wo, rfl⟩ : ∃ wo : World, wo = w := ⟨_, rfl⟩
  go_enter Try.func21, Try.ntmps21
  go_wp2_with fail
  obtain ⟨n, hnn⟩ : ∃ n, n = 2 + nm.size := ⟨_, rfl⟩
  rw [show (2 : Int) + (nm.size : Int) = ((n : Nat) : Int) by omega]
  have hwn : wd.length = n := by omega
  have hnb : n ≤ 1073741826 := by omega
  clear hwl
  replace hnn := Lib.hid hnn
  go_loopw [6] (fun u6 wr => Below wo.heap.size wo wr ∧ ∃ i : Nat, i ≤ s.size ∧ u6 = .int .i64 (i : Int) ∧ Hid (R = (M5.endsL wd (s.data.toList.drop i)).map (· + i))) (fun u6 _ => s.size - (intOf u6).toNat)
  case atStart => exact ⟨Below.refl _ _, 0, (by omega), rfl, h0⟩
  case round =>
    obtain ⟨hbl, i, hi, rfl, hv⟩ := hrel
    by_cases hlt : i + n < s.size
    · have hil : i < s.size := by omega
      have hstep := ends_step wd s i n (by omega) (by omega)
      have hx : (s.extract i (i + n)).data.toList = (s.data.toList.drop i).take n := by rw [Lib.extract_data, Nat.add_sub_cancel_left]
      have hxs : (s.extract i (i + n)).size ≤ 1073741824 := by rw [ByteArray.size_extract]; omega
      have hF := Lib.hid (fun w => ref01Fold (s.extract i (i + n)) w hxs)
      rw [← hx] at hstep
      replace hx := Lib.hid hx
      obtain ⟨G, hG⟩ : ∃ G, G = M1.fold (s.extract i (i + n)).data.toList := ⟨_, rfl⟩
      rw [← hG] at hstep
      replace hG := Lib.hid hG
      replace hstep := Lib.hid hstep
      go_wp2_with fail
      replace hstep := hstep.out
      refine (hF.out _).mono ?_
      rintro e1 w1 ⟨rfl, hb1⟩
      rw [← hG.out]
      have hBl := Lib.hid (fun w => ref05blank s[i + n] w)
      by_cases hg : G = wd
      · have hcmp : (G == ((⟨#[60, 47]⟩ : ByteArray) ++ nm).toList) = true := by rw [hW.out, hg]; simp
        rw [show (G == wd) = true by rw [hg]; simp, Bool.true_and] at hstep
        replace hg := Lib.hid hg
        replace hstep := Lib.hid hstep
        go_wp2_with fail
        replace hstep := hstep.out
        refine (hBl.out _).mono ?_
        rintro e2 w2 ⟨rfl, rfl⟩
        have e47 : ((s[i + n].toNat : Int) == 47) = (s[i + n] == 47) := (eqI _ 47).symm
        have e62 : ((s[i + n].toNat : Int) == 62) = (s[i + n] == 62) := (eqI _ 62).symm
        have hyes : edgeB s[i + n] = true → R = some i := fun hed => by rw [hv.out, hstep, hed, if_pos rfl]; exact congrArg some (Nat.zero_add i)
        have hnot : edgeB s[i + n] = false → R = (M5.endsL wd (s.data.toList.drop (i + 1))).map (· + (i + 1)) := fun hed => by
          rw [hv.out, hstep, hed, if_neg (by simp), Option.map_map]
          congr 1; funext k; show k + 1 + i = k + (i + 1); omega
        replace hstep := Lib.hid hstep
        rw [edgeB] at hyes hnot
        rcases Bool.eq_false_or_eq_true (M5.blankB s[i + n]) with hb | hb
        · rw [hb]
          replace hyes := Lib.hid (hyes (by rw [hb]; rfl))
          clear hnot e47 e62
          go_wp2_with fail
          go_ret
          exact ⟨by rw [hyes.out]; rfl, bt hbl hb1⟩
        · rw [hb] at hyes hnot ⊢
          rcases Bool.eq_false_or_eq_true (s[i + n] == 47) with h4 | h4
          · rw [h4] at hyes e47
            replace hyes := Lib.hid (hyes rfl)
            clear hnot e62
            replace h4 := Lib.hid h4
            go_wp2_with fail
            go_ret
            exact ⟨by rw [hyes.out]; rfl, bt hbl hb1⟩
          · rw [h4] at hyes hnot e47
            rcases Bool.eq_false_or_eq_true (s[i + n] == 62) with h6 | h6
            · rw [h6] at hyes e62
              replace hyes := Lib.hid (hyes rfl)
              clear hnot
              replace h4 := Lib.hid h4
              replace h6 := Lib.hid h6
              go_wp2_with fail
              go_ret
              exact ⟨by rw [hyes.out]; rfl, bt hbl hb1⟩
            · rw [h6] at hnot e62
              replace hnot := Lib.hid (hnot rfl)
              clear hyes
              replace h4 := Lib.hid h4
              replace h6 := Lib.hid h6
              go_wp2_with fail
              go_round
              case rel => exact ⟨bt hbl hb1, i + 1, by omega, by go_num, hnot⟩
              case measure => exact rf_meas hil
      · have hcmp : (G == ((⟨#[60, 47]⟩ : ByteArray) ++ nm).toList) = false := by rw [hW.out, beq_eq_false_iff_ne]; exact hg
        have hv2 : Hid (R = (M5.endsL wd (s.data.toList.drop (i + 1))).map (· + (i + 1))) := by
          show _ = _
          rw [hv.out, hstep, show (G == wd) = false by rw [beq_eq_false_iff_ne]; exact hg, Bool.false_and, if_neg (by simp), Option.map_map]
          congr 1; funext k; show k + 1 + i = k + (i + 1); omega
        replace hg := Lib.hid hg
        replace hstep := Lib.hid hstep
        go_wp2_with fail
        go_round
        case rel => exact ⟨bt hbl hb1, i + 1, by omega, by go_num, hv2⟩
        case measure => exact rf_meas hil
    · have hno : R = none := by
        rw [hv.out, ends_short wd _ (by rw [List.length_drop]; show s.size - i ≤ _; omega)]; rfl
      replace hno := Lib.hid hno
      go_wp2_with fail
      go_ret
      exact ⟨by rw [hno.out]; rfl, hbl⟩
end Go.Proofs.Ytlknmnldblodbaa

/- Tokens by definitions: the rounds of the attributes and of the tokens without fuel. -/
namespace Go.Proofs.Ytlknmnldblodbaa.M5

/-- The attributes of a beginning tag, without fuel. -/
def attsR (l : List UInt8) (acc : List Att) : Option (List Att × List UInt8) := attsF l.length l acc
theorem attsR_nil (acc : List Att) : attsR [] acc = none := rfl
theorem attsR_cons (c : UInt8) (r : List UInt8) (acc : List Att) : attsR (c :: r) acc =
    if c = 62 then some (acc, r) else if stopB c then attsR r acc
    else if (attrAt (c :: r)).2.2 then attsR (attrAt (c :: r)).2.1 (addT acc (attrAt (c :: r)).1) else none := by
  show attsF (r.length + 1) (c :: r) acc = _
  rw [attsF]
  by_cases hc : c = 62
  · rw [if_pos hc, if_pos hc]
  · rw [if_neg hc, if_neg hc]
    cases hst : stopB c
    · rw [if_neg (Bool.false_ne_true), if_neg (Bool.false_ne_true)]
      have hlt := attr_lt c r hst
      rw [List.length_cons] at hlt
      rw [attsR, atts_fuel r.length (attrAt (c :: r)).2.1.length (attrAt (c :: r)).2.1 _ (by omega) (Nat.le_refl _)]
    · rfl
theorem attsR_suf (l : List UInt8) (acc as_ : List Att) (r : List UInt8) (h : attsR l acc = some (as_, r)) : Suf r l := atts_suf l.length l acc as_ r h
theorem begin_eq (l : List UInt8) : beginR l = match attsR ((l.drop 1).dropWhile nameB) [] with
  | some (as_, r) => (⟨1, bs (M1.fold ((l.drop 1).takeWhile nameB)), as_, ⟨#[]⟩⟩, r)
  | none => (zero, []) := by
  have hs := (Suf.dropWhile nameB (l.drop 1)).le
  have hd : (l.drop 1).length ≤ l.length := by rw [List.length_drop]; omega
  rw [beginR, attsR, atts_fuel l.length ((l.drop 1).dropWhile nameB).length _ [] (by omega) (Nat.le_refl _)]
  try (cases attsF ((l.drop 1).dropWhile nameB).length ((l.drop 1).dropWhile nameB) [] <;> rfl)
/-- Behind a tag less is left. -/
theorem tag_lt (l : List UInt8) (h : startsB l = true) : (tagR l).2.length < l.length := by
  match l with
  | [] => cases h
  | [c] => cases h
  | c :: d :: r =>
    have hlen : (c :: d :: r).length = r.length + 2 := rfl
    rw [tagR, if_pos h]
    show (if letterB d then _ else _ : Tok × List UInt8).2.length < _
    split
    · rw [begin_eq]
      cases ha : attsR (((c :: d :: r).drop 1).dropWhile nameB) [] with
      | none => show 0 < _; omega
      | some p =>
        have h1 := (attsR_suf _ _ p.1 p.2 ha).le
        have h2 := (Suf.dropWhile nameB ((c :: d :: r).drop 1)).le
        have h3 : ((c :: d :: r).drop 1).length = r.length + 1 := rfl
        show p.2.length < _
        omega
    · split
      · have h1 := (upto_suf [45, 45, 62] ((c :: d :: r).drop 4)).le
        rw [List.length_drop] at h1
        show (uptoR [45, 45, 62] ((c :: d :: r).drop 4)).2.length < _
        omega
      · split
        · show ((c :: d :: r).drop 3).length < _
          rw [List.length_drop]
          omega
        · split
          · split
            · show (r.drop _).length < _
              rw [List.length_drop]
              omega
            · show 0 < _
              omega
          · have h1 := (upto_suf [62] r).le
            show (uptoR [62] r).2.length < _
            omega
/-- More fuel than signs changes nothing. -/
theorem toks_fuel (n : Nat) : ∀ (m : Nat) (p l : List UInt8), l.length ≤ n → l.length ≤ m → toksF n p l = toksF m p l := by
  induction n with
  | zero => intro m p l h1 h2; cases l with
    | nil => cases m <;> rfl
    | cons c r => simp at h1
  | succ n ih =>
    intro m p l h1 h2
    cases l with
    | nil => cases m <;> rfl
    | cons c r =>
      cases m with
      | zero => simp at h2
      | succ m =>
        rw [toksF, toksF]
        simp only [List.length_cons] at h1 h2
        cases hs : startsB (c :: r)
        · rw [if_neg Bool.false_ne_true, if_neg Bool.false_ne_true, ih m _ _ (by omega) (by omega)]
        · have hlt := tag_lt (c :: r) hs
          rw [List.length_cons] at hlt
          rw [if_pos rfl, if_pos rfl, ih m _ (tagR (c :: r)).2 (by omega) (by omega)]
          rw [ih m _ ((tagR (c :: r)).2.drop _) (by rw [List.length_drop]; omega) (by rw [List.length_drop]; omega)]
/-- The tokens of what is left, where p stands ahead, without fuel. -/
def toksR (p l : List UInt8) : List Tok := toksF l.length p l
theorem tokens_eq (l : List UInt8) : tokens l = toksR [] l := rfl
theorem toksR_nil (p : List UInt8) : toksR p [] = charsT p := by rw [toksR, toksF]
/-- What is left behind a tag that begins a raw element: its text. -/
def rawT (t : Tok) (l : List UInt8) : List Tok × List UInt8 :=
  if t.kind = 1 ∧ M3.rawB t.name.data.toList = true then (asIs (l.take (endN t.name.data.toList l)), l.drop (endN t.name.data.toList l)) else ([], l)
theorem toksR_text (p : List UInt8) (c : UInt8) (r : List UInt8) (h : startsB (c :: r) = false) : toksR p (c :: r) = toksR (p ++ [c]) r := by
  show toksF (r.length + 1) p (c :: r) = _
  rw [toksF, h, if_neg Bool.false_ne_true]
  rfl
theorem toksR_tag (p : List UInt8) (l : List UInt8) (h : startsB l = true) :
    toksR p l = charsT p ++ ((if (tagR l).1.kind ≠ 0 then [(tagR l).1] else []) ++ ((rawT (tagR l).1 (tagR l).2).1 ++ toksR [] (rawT (tagR l).1 (tagR l).2).2)) := by
  cases l with
  | nil => cases h
  | cons c r =>
    have hlt := tag_lt (c :: r) h
    rw [List.length_cons] at hlt
    show toksF (r.length + 1) p (c :: r) = _
    rw [toksF, h, if_pos rfl]
    congr 2
    by_cases hr : (tagR (c :: r)).1.kind = 1 ∧ M3.rawB (tagR (c :: r)).1.name.data.toList = true
    · rw [if_pos hr, rawT, if_pos hr]
      congr 1
      exact toks_fuel _ _ _ _ (by rw [List.length_drop]; omega) (Nat.le_refl _)
    · rw [if_neg hr, rawT, if_neg hr]
      exact toks_fuel _ _ _ _ (by omega) (Nat.le_refl _)
end Go.Proofs.Ytlknmnldblodbaa.M5

/- Reference 5: the beginning tag. -/
namespace Go.Proofs.Ytlknmnldblodbaa
open Go.RowKit

theorem own_below {w w1 : World} {base k : Nat} {e : TypeId} {v : Value} {n : Nat} {xs : List Value} (h : w.ownsRow base e k v n xs) (hb : Below w.heap.size w w1) : w1.ownsRow base e k v n xs :=
  h.kept (row := none) ⟨hb.os, hb.tape, hb.output, hb.size, fun k hk _ => hb.block k hk⟩ (by cases h : v.ownBlock <;> simp)
theorem infoA5 : (Try.prog.info? 44).map (fun i => (i.zero, i.size, i.bytes)) = some (some (.agg #[.string ⟨#[]⟩, .string ⟨#[]⟩]), 2, 32) := by kernel_rfl
/-- A token made by the call, and where it goes on. -/
def TokPost (t : Tok) (n : Nat) (w : World) (e : Ending) (w' : World) : Prop := ∃ va, e = .returned (.tuple #[.agg #[.int .i64 t.kind, .string t.name, va, .string t.text], .int .i64 (n : Int)]) ∧ w'.ownsRow w.heap.size 44 2 va t.attrs.length (cellsA t.attrs) ∧ Below w.heap.size w w'
theorem own_slice5 {w : World} {B : Nat} {e : TypeId} {k n : Nat} {v : Value} {xs : List Value} (h : w.ownsRow B e k v n xs) : ∃ a c, v = .slice a n c := by
  rcases h.2 with ⟨rfl, rfl⟩ | ⟨g, cap, cur, rfl, _⟩
  · exact ⟨none, 0, rfl⟩
  · exact ⟨_, _, rfl⟩
theorem own_keep5 {w w' : World} {B : Nat} {e : TypeId} {k n : Nat} {v : Value} {xs : List Value} (h : w.ownsRow B e k v n xs) (hk : ∀ g, v.ownBlock = some g → w'.heap[g]? = w.heap[g]?) : w'.ownsRow B e k v n xs := by
  refine ⟨h.1, ?_⟩
  rcases h.2 with hn | ⟨g, cap, cur, rfl, hb, hg, rest⟩
  · exact .inl hn
  · exact .inr ⟨g, cap, cur, rfl, hb, (hk g rfl).trans hg, rest⟩
theorem below_drewN5 {B : Nat} {a w : World} (h : Below B a w) (n : Nat) : Below B a (w.drewN n) := ⟨h.os, h.tape, h.output, h.size, h.block⟩
theorem own_le {w : World} {B B' : Nat} {e : TypeId} {k n : Nat} {v : Value} {xs : List Value} (h : w.ownsRow B e k v n xs) (hb : B' ≤ B) : w.ownsRow B' e k v n xs := by
  refine ⟨h.1, ?_⟩
  rcases h.2 with hn | ⟨g, cap, cur, rfl, h1, rest⟩
  · exact .inl hn
  · exact .inr ⟨g, cap, cur, rfl, Nat.le_trans hb h1, rest⟩
theorem Box.four {W : World} {g : Nat} {t : TypeId} {z0 z1 z2 z3 : Value} (h : Box W g t [z0, z1, z2, z3]) (c0 c1 c2 c3 : Value) : Box ((((W.setCell ⟨g, 0, none⟩ c0).setCell ⟨g, 1, none⟩ c1).setCell ⟨g, 2, none⟩ c2).setCell ⟨g, 3, none⟩ c3) g t [c0, c1, c2, c3] :=
  (((h.set 0 c0).set 1 c1).set 2 c2).set 3 c3
theorem four_below {B : Nat} {a W : World} (h : Below B a W) {g : Nat} (c0 c1 c2 c3 : Value) (hg : B ≤ g) : Below B a ((((W.setCell ⟨g, 0, none⟩ c0).setCell ⟨g, 1, none⟩ c1).setCell ⟨g, 2, none⟩ c2).setCell ⟨g, 3, none⟩ c3) :=
  (((h.setCell (p := ⟨g, 0, none⟩) hg c0).setCell (p := ⟨g, 1, none⟩) hg c1).setCell (p := ⟨g, 2, none⟩) hg c2).setCell (p := ⟨g, 3, none⟩) hg c3
theorem own_set {W : World} {B g j : Nat} {e : TypeId} {k n : Nat} {v : Value} {xs : List Value} (h : W.ownsRow B e k v n xs) (hg : g < B) (c : Value) : (W.setCell ⟨g, j, none⟩ c).ownsRow B e k v n xs :=
  own_keep5 h fun b hb => Below.heap_setCell W ⟨g, j, none⟩ c b (by have := (h.lt b hb).1; show b ≠ g; omega)
theorem own_four {W : World} {B g : Nat} {e : TypeId} {k n : Nat} {v : Value} {xs : List Value} (h : W.ownsRow B e k v n xs) (hg : g < B) (c0 c1 c2 c3 : Value) : ((((W.setCell ⟨g, 0, none⟩ c0).setCell ⟨g, 1, none⟩ c1).setCell ⟨g, 2, none⟩ c2).setCell ⟨g, 3, none⟩ c3).ownsRow B e k v n xs :=
  own_set (own_set (own_set (own_set h hg c0) hg c1) hg c2) hg c3
theorem tokPost_mk {P : Tok × List UInt8} {t : Tok} {l : List UInt8} {k : Nat} {va : Value} {w w' : World} {e : Ending} {B : Nat} (hp : P = (t, l.drop k)) (hk : k ≤ l.length) (he : e = .returned (.tuple #[.agg #[.int .i64 t.kind, .string t.name, va, .string t.text], .int .i64 (k : Int)]))
    (ho : w'.ownsRow B 44 2 va t.attrs.length (cellsA t.attrs)) (hB : w.heap.size ≤ B) (hb : Below w.heap.size w w') : TokPost P.1 (l.length - P.2.length) w e w' := by
  subst hp he
  refine ⟨va, ?_, own_le ho hB, hb⟩
  rw [show (l.drop k).length = l.length - k from List.length_drop, show l.length - (l.length - k) = k by omega]
/-- 'append(s, x)' of one element of k cells onto a row that the call owns. -/
theorem wpList_appOne {P : Program} {ops : Array Oper} {rest : List Oper} {o : Oper} {a : Act} {Q : Exit → Act → World → Prop} (w1 : World) (cs : List Value) (hgd : o.guard = none) (s y : Operand) (t e : TypeId)
    (ho : o.op = .call { callee := .builtin .append, args := #[s, y], argTypes := #[t, t] }) (base k : Nat) {z : Value} {bytes : Nat} (ht : P.underlying t = some (.slice e))
    (hinfo : (P.info? e).map (fun i => (i.zero, i.size, i.bytes)) = some (some z, k, bytes)) (hz : z.cells.size = k) (hk : 0 < k)
    (v : Value) (n : Nat) (xs : List Value) (hs : a.eval s = v) (hown : w1.ownsRow base e k v n xs) (H : Nat) (hH : w1.heap.size = H) (hx : a.eval y = .slice (some ⟨H, 0, none⟩) 1 1) (hcs : cs.length = k) (h1 : ∀ u ∈ cs, u.oneCell' = true)
    (h63 : n + 1 ≤ 9223372036854775807) (hbytes : (n + 1) * bytes ≤ 140737488355328) (hbase : base ≤ w1.heap.size)
    (h : ∀ g cap w2, w2.ownsRow base e k (.slice (some ⟨g, 0, none⟩) (n + 1) cap) (n + 1) (xs ++ cs) → w1.grownBy w2 v.ownBlock → (v.ownBlock = some g ∨ w1.heap.size ≤ g) → wpList P ops Q rest (a.put o.dst (.slice (some ⟨g, 0, none⟩) (n + 1) cap)) w2) : wpList P ops Q (o :: rest) a (w1.alloc (.cells cs.toArray e)) := by
  subst hH
  obtain ⟨i, hi, hz0, hz1, hz2⟩ := info_parts hinfo
  refine wpList_append_lies _ hgd s y t ho base e i z k bytes ht hi hz0 hz1 hz2 hz hk v n xs hs (hown.alloc _) ⟨w1.heap.size, 0, none⟩ 1 1 cs hx (by omega) ?_ h1 (by omega) (by unfold maxLen; omega) hbytes (by simp; omega) _ rfl ?_
  · intro j u hj
    rw [add_plain', Nat.zero_add, World.cell?_alloc_at _ _ _ _ rfl]
    simpa using hj
  · intro g cap w2 h2 h3 h4 _
    exact h g cap w2 h2 (grownBy_of_alloc h3) (by
      rcases h4 with h4 | h4
      · exact .inl h4
      · right; rw [h4]; simp)
set_option maxHeartbeats 4000000 in
set_option maxRecDepth 100000 in
theorem ref05begin (s : ByteArray) (w : World) (hs : s.size ≤ 1073741824) (h1 : 1 ≤ s.size) :
    Calls Try.prog 40 #[.string s] w (TokPost (M5.beginR s.data.toList).1 (s.size - (M5.beginR s.data.toList).2.length) w) := by
  obtain ⟨A0, hA⟩ : ∃ A, Hid (A = 1 + M5.spanN M5.nameB (s.data.toList.drop 1)) := ⟨1 + M5.spanN M5.nameB (s.data.toList.drop 1), Lib.hid rfl⟩
  have hAs : A0 ≤ s.size := by rw [hA.out]; exact span_bound _ s 1 h1
  obtain ⟨nm, hnm⟩ : ∃ nm : ByteArray, Hid (nm = M5.bs (M1.fold ((s.data.toList.drop 1).takeWhile M5.nameB))) := ⟨M5.bs (M1.fold ((s.data.toList.drop 1).takeWhile M5.nameB)), Lib.hid rfl⟩
  have hn : Hid (∀ w, Calls Try.prog 43 #[.string s, .int .i64 1] w (fun e w' => e = .returned (.tuple #[.string nm, .int .i64 (A0 : Int)]) ∧ Below w.heap.size w w')) := Lib.hid fun w => by
    refine (ref05name s 1 w hs h1).mono ?_
    rintro e w' ⟨rfl, hb⟩
    exact ⟨by rw [hnm.out, hA.out]; rfl, hb⟩
  have hbe : Hid (M5.beginR s.data.toList = match M5.attsR (s.data.toList.drop A0) [] with
      | some (as_, r) => (⟨1, nm, as_, ⟨#[]⟩⟩, r)
      | none => (M5.zero, [])) := by
    show _ = _
    rw [M5.begin_eq, hnm.out, drop_while, ← hA.out]
    try (cases M5.attsR (s.data.toList.drop A0) [] <;> rfl)
  have hbl := Lib.hid (fun (i : Nat) (h : i < s.size) (w : World) => ref05blank s[i] w)
  generalize hP : M5.beginR s.data.toList = P at *
  replace hP := Lib.hid hP
  obtain ⟨wo, rfl⟩ : ∃ wo : World, wo = w := ⟨_, rfl⟩
  go_enter Try.func40, Try.ntmps40
  go_wp2_with (go_at_call 43; refine (hn.out _).mono ?_; rintro e1 w1 ⟨rfl, hb1⟩)
  have bz1 := (Box.new wo 31 [.int .i64 0, .string ⟨#[]⟩, .slice none 0 0, .string ⟨#[]⟩]).below hb1 (by simp)
  have b1 : Below wo.heap.size wo w1 := bt ((Below.refl _ wo).alloc (Nat.le_refl _) _) hb1
  have hs1 : wo.heap.size < w1.heap.size := bz1.lt
  go_loopw [5] (fun u5 wr => ∃ (i : Nat) (acc : List Att) (va : Value), i ≤ s.size ∧ u5 = .int .i64 (i : Int) ∧ Box wr wo.heap.size 31 [.int .i64 0, .string ⟨#[]⟩, .slice none 0 0, .string ⟨#[]⟩] ∧ Box wr w1.heap.size 31 [.int .i64 1, .string nm, va, .string ⟨#[]⟩] ∧ wr.ownsRow (w1.heap.size + 1) 44 2 va acc.length (cellsA acc) ∧ Below wo.heap.size wo wr ∧ acc.length ≤ i ∧ Hid (M5.attsR (s.data.toList.drop A0) [] = M5.attsR (s.data.toList.drop i) acc)) (fun u5 _ => s.size - (intOf u5).toNat)
  case atStart => exact ⟨A0, [], .slice none 0 0, hAs, rfl, bz1.alloc _, Box.new w1 31 [.int .i64 1, .string nm, .slice none 0 0, .string ⟨#[]⟩], World.ownsRow_nil _ _ _ _, b1.alloc (by omega) _, Nat.zero_le _, Lib.hid rfl⟩
  case round =>
    obtain ⟨i, acc, va, hi, rfl, bz, bx, hown, hb, hal, hv⟩ := hrel
    have z0 := bz.cell (i := 0) rfl
    have z1 := bz.cell (i := 1) rfl
    have z2 := bz.cell (i := 2) rfl
    have z3 := bz.cell (i := 3) rfl
    have fz := bz.free
    have hz := wr.heap.size
    by_cases hil : i < s.size
    · have hB := Lib.hid (fun w => hbl.out i hil w)
      have hcons := drop_cons s i hil
      have hv1 := hv.out
      rw [hcons, M5.attsR_cons] at hv1
      rw [← hcons] at hv1
      replace hcons := Lib.hid hcons
      cases h62 : (s[i] == 62)
      · rw [if_neg (by simpa using h62)] at hv1
        have e62 : ((s[i].toNat : Int) == 62) = false := by rw [show ((s[i].toNat : Int) == 62) = (s[i] == 62) from (eqI _ 62).symm]; exact h62
        have e47 : ((s[i].toNat : Int) == 47) = (s[i] == 47) := (eqI _ 47).symm
        have e61 : ((s[i].toNat : Int) == 61) = (s[i] == 61) := (eqI _ 61).symm
        have hlt : M5.stopB s[i] = false → ∃ (a : Att) (K : Nat) (ok : Bool), i < K ∧ K ≤ s.size ∧ Hid (M5.attrAt (s.data.toList.drop i) = (a, s.data.toList.drop K, ok)) := fun h => by
          have h1 := M5.attr_lt s[i] (s.data.toList.drop (i + 1)) h
          rw [← hcons.out] at h1
          obtain ⟨k, hk, hr⟩ := M5.attr_suf (s.data.toList.drop i)
          have hdl : (s.data.toList.drop i).length = s.size - i := List.length_drop
          rw [List.drop_drop] at hr
          rw [hr, List.length_drop, hdl] at h1
          have hsl : s.data.toList.length = s.size := rfl
          exact ⟨(M5.attrAt (s.data.toList.drop i)).1, i + k, (M5.attrAt (s.data.toList.drop i)).2.2, by omega, by omega, Lib.hid (by rw [← hr])⟩
        have hsB : M5.stopB s[i] = (M5.blankB s[i] || s[i] == 47 || s[i] == 61) := by rw [M5.stopB, h62, Bool.or_false]
        have hst : M5.stopB s[i] = true → Hid (M5.attsR (s.data.toList.drop A0) [] = M5.attsR (s.data.toList.drop (i + 1)) acc) := fun h => by
          show _ = _; rw [hv.out, ← hv.out, hv1, if_pos h]
        have hat : M5.stopB s[i] = false → Hid (M5.attsR (s.data.toList.drop A0) [] = if (M5.attrAt (s.data.toList.drop i)).2.2 then M5.attsR (M5.attrAt (s.data.toList.drop i)).2.1 (M5.addT acc (M5.attrAt (s.data.toList.drop i)).1) else none) := fun h => by
          show _ = _; rw [hv1, if_neg (by rw [h]; exact Bool.false_ne_true)]
        rw [hsB] at hst hat hlt
        clear hv1 hv hsB
        replace h62 := Lib.hid h62
        generalize hb0 : M5.blankB s[i] = bl at *
        cases bl
        · rcases Bool.eq_false_or_eq_true (s[i] == 47) with h4 | h4
          · rw [h4] at hst e47
            replace hst := hst rfl
            clear hat hlt
            replace h4 := Lib.hid h4
            go_wp2_with (go_at_call 49; refine (hB.out _).mono ?_; rintro e1 w2 ⟨rfl, rfl⟩)
            go_roundw
            case rel => exact ⟨i + 1, acc, va, by omega, by go_num, bz, bx, hown, hb, by omega, hst.out⟩
            case measure => exact rf_meas hil
          · rcases Bool.eq_false_or_eq_true (s[i] == 61) with h6 | h6
            · rw [h6, h4] at hst
              rw [h4] at e47
              rw [h6] at e61
              replace hst := hst rfl
              clear hat hlt
              replace h4 := Lib.hid h4
              replace h6 := Lib.hid h6
              go_wp2_with (go_at_call 49; refine (hB.out _).mono ?_; rintro e1 w2 ⟨rfl, rfl⟩)
              go_roundw
              case rel => exact ⟨i + 1, acc, va, by omega, by go_num, bz, bx, hown, hb, by omega, hst.out⟩
              case measure => exact rf_meas hil
            · rw [h6, h4] at hat hlt
              rw [h4] at e47
              rw [h6] at e61
              replace hat := hat rfl
              obtain ⟨at0, K, ok, hiK, hKs, hp⟩ := hlt rfl
              clear hst
              replace h4 := Lib.hid h4
              replace h6 := Lib.hid h6
              have hat2 : Hid (M5.attsR (s.data.toList.drop A0) [] = if ok then M5.attsR (s.data.toList.drop K) (M5.addT acc at0) else none) := by show _ = _; rw [hat.out, hp.out]
              clear hat
              have hAt : Hid (∀ w, Calls Try.prog 67 #[.string s, .int .i64 (i : Int)] w (fun e w' => e = .returned (.tuple #[.agg #[.string at0.name, .string at0.value], .int .i64 (K : Int), .bool ok]) ∧ Below w.heap.size w w')) := Lib.hid fun w => by
                refine (ref05attribute s i w hs hi).mono ?_
                rintro e w' ⟨rfl, hb⟩
                refine ⟨?_, hb⟩
                rw [hp.out, show (s.data.toList.drop K).length = s.size - K from List.length_drop, show s.size - (s.size - K) = K by omega]
              go_wp2_with (go_at_call 49; refine (hB.out _).mono ?_; rintro e1 w2 ⟨rfl, rfl⟩)
              refine (hAt.out _).mono ?_
              rintro e1 w2 ⟨rfl, hb2⟩
              replace hb := Lib.hid (bt hb hb2)
              have bz2 := (bz.below hb2 bz.lt).alloc (.cells #[.string at0.name, .string at0.value] 44)
              have bx2 := (bx.below hb2 bx.lt).alloc (.cells #[.string at0.name, .string at0.value] 44)
              have ba2 := Box.new w2 44 [.string at0.name, .string at0.value]
              have hown2 := (own_below hown hb2).alloc (.cells #[.string at0.name, .string at0.value] 44)
              have hbW := Lib.hid (hb.out.alloc hb.out.size (.cells #[.string at0.name, .string at0.value] 44))
              have hx2 := bx2.lt
              have hz2 := bz2.lt
              have z0 := bz2.cell (i := 0) rfl
              have z1 := bz2.cell (i := 1) rfl
              have z2 := bz2.cell (i := 2) rfl
              have z3 := bz2.cell (i := 3) rfl
              have fz := bz2.free
              cases ok
              · have hin : Hid (P = (M5.zero, [])) := by show _ = _; rw [hbe.out, hat2.out]; rfl
                go_wp2_with fail
                have bf := bz2.four (.int .i64 0) (.string ⟨#[]⟩) (.slice none 0 0) (.string ⟨#[]⟩)
                have q0 := bf.cell (i := 0) rfl
                have q1 := bf.cell (i := 1) rfl
                have q2 := bf.cell (i := 2) rfl
                have q3 := bf.cell (i := 3) rfl
                exact bodyPost_ret (v := .tuple #[.agg #[.int .i64 0, .string ⟨#[]⟩, .slice none 0 0, .string ⟨#[]⟩], .int .i64 (s.size : Int)]) (by simp [results, Try.results40, go_sem, q0, q1, q2, q3]) rfl (tokPost_mk (t := M5.zero) (k := s.size) (by rw [hin.out, drop_end s s.size (Nat.le_refl _)]) (Nat.le_refl _) rfl (World.ownsRow_nil _ wo.heap.size _ _) (Nat.le_refl _) (four_below hbW.out _ _ _ _ (Nat.le_refl _)))
              · rw [if_pos rfl] at hat2
                obtain ⟨va, cap, rfl⟩ := own_slice5 hown2
                have x2 := bx2.cell (i := 2) rfl
                have y0 := ba2.cell (i := 0) rfl
                go_upto_block 2 with fail
                go_cut [10, 11] (fun s10 s11 wx => s10 = .bool (acc.any fun b => M3.eqB b.name at0.name) ∧ wx.heap = (w2.alloc (.cells #[.string at0.name, .string at0.value] 44)).heap ∧ Below wo.heap.size wo wx)
                case first =>
                  go_wp2_with fail
                  go_loopw [10, 11] (fun u10 u11 wq => ∃ k : Nat, k ≤ acc.length ∧ u11 = .int .i64 (k : Int) ∧ u10 = .bool ((acc.take k).any fun b => M3.eqB b.name at0.name) ∧ Hid (wq.heap = (w2.alloc (.cells #[.string at0.name, .string at0.value] 44)).heap) ∧ Below wo.heap.size wo wq) (fun _ u11 _ => acc.length - (intOf u11).toNat)
                  case atStart => exact ⟨0, by omega, rfl, rfl, Lib.hid rfl, hbW.out⟩
                  case round =>
                    obtain ⟨k, hk, rfl, rfl, hhp, hbq⟩ := hrel
                    have x2 := (bx2.keep (w' := wr) (by rw [hhp.out])).cell (i := 2) rfl
                    have y0 := (ba2.keep (w' := wr) (by rw [hhp.out])).cell (i := 0) rfl
                    by_cases hkl : k < acc.length
                    · obtain ⟨b', off', rfl, _, q0, q1⟩ := (Row.own (S := fun _ => True) (own_keep5 (w' := wr) hown2 (fun g _ => by rw [hhp.out])) (fun _ _ => trivial)).atA k hkl
                      have hstep : ((acc.take (k + 1)).any fun b => M3.eqB b.name at0.name) = (((acc.take k).any fun b => M3.eqB b.name at0.name) || (acc[k].name.toList == at0.name.toList)) := by
                        rw [List.take_succ_eq_append_getElem hkl, List.any_append, List.any_cons, List.any_nil, Bool.or_false]; rfl
                      generalize hA1 : ((acc.take (k + 1)).any fun b => M3.eqB b.name at0.name) = had1 at *
                      generalize hA2 : ((acc.take k).any fun b => M3.eqB b.name at0.name) = had0 at *
                      replace hA1 := Lib.hid hA1
                      replace hA2 := Lib.hid hA2
                      cases had0
                      · generalize acc[k].name = kn at *
                        cases hkn : (kn.toList == at0.name.toList)
                        · have hh : had1 = false := by rw [hstep, hkn]; rfl
                          clear hstep
                          go_wp2_with fail
                          go_quiet (fail)
                          go_wp2_with fail
                          go_roundw
                          case rel => exact ⟨k + 1, by omega, by go_num, by rw [hA1.out, hh], hhp, below_drewN5 hbq _⟩
                          case measure => simp [intOf]; omega
                        · have hh : had1 = true := by rw [hstep, hkn]; rfl
                          clear hstep
                          go_wp2_with fail
                          go_quiet (fail)
                          go_wp2_with fail
                          go_roundw
                          case rel => exact ⟨k + 1, by omega, by go_num, by rw [hA1.out, hh], hhp, below_drewN5 hbq _⟩
                          case measure => simp [intOf]; omega
                      · have hh : had1 = true := by rw [hstep]; rfl
                        clear hstep
                        go_wp2_with fail
                        go_quiet (fail)
                        go_wp2_with fail
                        go_roundw
                        case rel => exact ⟨k + 1, by omega, by go_num, by rw [hA1.out, hh], hhp, below_drewN5 hbq _⟩
                        case measure => simp [intOf]; omega
                    · obtain rfl : k = acc.length := by omega
                      rw [List.take_length]
                      generalize (acc.any fun b => M3.eqB b.name at0.name) = had0 at *
                      go_wp2_with fail
                      go_meet
                      case rel => exact ⟨rfl, hhp.out, hbq⟩
                case rest =>
                  obtain ⟨rfl, hhp, hbq⟩ := hcut
                  have x2 := (bx2.keep (w' := wc) (by rw [hhp])).cell (i := 2) rfl
                  have fx := (bx2.keep (w' := wc) (by rw [hhp])).free
                  have y0 := (ba2.keep (w' := wc) (by rw [hhp])).cell (i := 0) rfl
                  have y1 := (ba2.keep (w' := wc) (by rw [hhp])).cell (i := 1) rfl
                  have hown3 := own_keep5 (w' := wc) hown2 (fun g _ => by rw [hhp])
                  cases hhad : (acc.any fun b => M3.eqB b.name at0.name)
                  · have hadd : M5.addT acc at0 = acc ++ [at0] := by rw [M5.addT, hhad]; rfl
                    rw [hadd] at hat2
                    have hcA : cellsA acc ++ [.string at0.name, .string at0.value] = cellsA (acc ++ [at0]) := by rw [cellsA_append]; rfl
                    have hwc : wc.heap.size = w2.heap.size + 1 := by rw [hhp]; simp
                    have bzc := bz2.keep (w' := wc) (by rw [hhp])
                    have bxc := bx2.keep (w' := wc) (by rw [hhp])
                    have hws : w1.heap.size + 1 ≤ w2.heap.size := by have := (bx.below hb2 bx.lt).lt; omega
                    replace hhad := Lib.hid hhad
                    replace hcA := Lib.hid hcA
                    replace hadd := Lib.hid hadd
                    replace hown3 := Lib.hid hown3
                    replace bzc := Lib.hid bzc
                    replace bxc := Lib.hid bxc
                    replace hwc := Lib.hid hwc
                    go_wp2_with (at_builtin; refine wpList_appOne _ [.string at0.name, .string at0.value] rfl _ _ 29 44 rfl (w1.heap.size + 1) 2 Try.underlying29 infoA5 rfl (by omega) _ acc.length (cellsA acc) rfl hown3.out (w2.heap.size + 1) hwc.out (by rfl) rfl (by simp [Value.oneCell']) (by omega) (by omega) (by have := hwc.out; omega) ?_; intro gg cap' w5 hown5 hgrow hat5; have bx5 := bxc.out.keep (hgrow.block _ bxc.out.lt (fun e => by have := (hown3.out.lt _ e.symm).1; omega)); have bz5 := bzc.out.keep (hgrow.block _ bzc.out.lt (fun e => by have := (hown3.out.lt _ e.symm).1; omega)); have c5 := bx5.cell (i := 2) rfl; have f5 := bx5.free 2)
                    have hb5 := hbq.grown hgrow hbq.size (fun g hg => by have := (hown3.out.lt g hg).1; omega)
                    have hb6 : Below wo.heap.size wo (w5.setCell ⟨w1.heap.size, 2, none⟩ (.slice (some ⟨gg, 0, none⟩) (acc.length + 1) cap')) := hb5.setCell (p := ⟨w1.heap.size, 2, none⟩) (by show wo.heap.size ≤ w1.heap.size; omega) _
                    have bz6 := bz5.far (p := ⟨w1.heap.size, 2, none⟩) (by show wo.heap.size ≠ w1.heap.size; omega) (.slice (some ⟨gg, 0, none⟩) (acc.length + 1) cap')
                    have bx6 := bx5.set 2 (.slice (some ⟨gg, 0, none⟩) (acc.length + 1) cap')
                    have hown6 := own_set (g := w1.heap.size) (j := 2) hown5 (by omega) (.slice (some ⟨gg, 0, none⟩) (acc.length + 1) cap')
                    rw [hcA.out] at hown6
                    go_roundw
                    case rel => exact ⟨K, acc ++ [at0], .slice (some ⟨gg, 0, none⟩) (acc.length + 1) cap', hKs, rfl, bz6, bx6, by rw [List.length_append]; exact hown6, hb6, by rw [List.length_append]; show acc.length + 1 ≤ K; omega, hat2⟩
                    case measure => simp [intOf]; omega
                  · have hadd : M5.addT acc at0 = acc := by rw [M5.addT, hhad]; rfl
                    rw [hadd] at hat2
                    replace hhad := Lib.hid hhad
                    go_wp2_with fail
                    go_roundw
                    case rel => exact ⟨K, acc, .slice va acc.length cap, hKs, rfl, bz2.keep (by rw [hhp]), bx2.keep (by rw [hhp]), own_keep5 hown2 (fun g _ => by rw [hhp]), hbq, by omega, hat2⟩
                    case measure => simp [intOf]; omega
        · replace hst := hst rfl
          clear hat hlt e47 e61
          go_wp2_with (go_at_call 49; refine (hB.out _).mono ?_; rintro e1 w2 ⟨rfl, rfl⟩)
          go_roundw
          case rel => exact ⟨i + 1, acc, va, by omega, by go_num, bz, bx, hown, hb, by omega, hst.out⟩
          case measure => exact rf_meas hil
      · rw [if_pos (by simpa using h62)] at hv1
        have hbe1 : Hid (P = (⟨1, nm, acc, ⟨#[]⟩⟩, s.data.toList.drop (i + 1))) := by
          show _ = _; rw [hbe.out, hv1]
        clear hv1 hv
        have e62 : ((s[i].toNat : Int) == 62) = true := by rw [show ((s[i].toNat : Int) == 62) = (s[i] == 62) from (eqI _ 62).symm]; exact h62
        replace h62 := Lib.hid h62
        obtain ⟨a, cap, rfl⟩ := own_slice5 hown
        have t0 := bx.cell (i := 0) rfl
        have t1 := bx.cell (i := 1) rfl
        have t2 := bx.cell (i := 2) rfl
        have t3 := bx.cell (i := 3) rfl
        go_wp2_with fail
        have bf := bz.four (.int .i64 1) (.string nm) (.slice a acc.length cap) (.string ⟨#[]⟩)
        have q0 := bf.cell (i := 0) rfl
        have q1 := bf.cell (i := 1) rfl
        have q2 := bf.cell (i := 2) rfl
        have q3 := bf.cell (i := 3) rfl
        exact bodyPost_ret (v := .tuple #[.agg #[.int .i64 1, .string nm, .slice a acc.length cap, .string ⟨#[]⟩], .int .i64 ((i + 1 : Nat) : Int)]) (by simp [results, Try.results40, go_sem, q0, q1, q2, q3]) rfl (tokPost_mk (t := ⟨1, nm, acc, ⟨#[]⟩⟩) (k := i + 1) hbe1.out hil rfl (own_four hown (by omega) _ _ _ _) (by omega) (four_below hb _ _ _ _ (Nat.le_refl _)))
    · have hin : Hid (P = (M5.zero, [])) := by
        show _ = _
        rw [hbe.out, hv.out, drop_end s i (by omega), M5.attsR_nil]
      clear hv
      go_wp2_with fail
      have bf := bz.four (.int .i64 0) (.string ⟨#[]⟩) (.slice none 0 0) (.string ⟨#[]⟩)
      have q0 := bf.cell (i := 0) rfl
      have q1 := bf.cell (i := 1) rfl
      have q2 := bf.cell (i := 2) rfl
      have q3 := bf.cell (i := 3) rfl
      exact bodyPost_ret (v := .tuple #[.agg #[.int .i64 0, .string ⟨#[]⟩, .slice none 0 0, .string ⟨#[]⟩], .int .i64 (s.size : Int)]) (by simp [results, Try.results40, go_sem, q0, q1, q2, q3]) rfl (tokPost_mk (t := M5.zero) (k := s.size) (by rw [hin.out, drop_end s s.size (Nat.le_refl _)]) (Nat.le_refl _) rfl (World.ownsRow_nil _ wo.heap.size _ _) (Nat.le_refl _) (four_below hb _ _ _ _ (Nat.le_refl _)))
end Go.Proofs.Ytlknmnldblodbaa

/- Reference 5: a tag. -/
namespace Go.Proofs.Ytlknmnldblodbaa
open Go.RowKit

theorem two_signs {s : ByteArray} (h : M5.startsB s.data.toList = true) : ∃ h2 : 1 < s.size, s.data.toList = s[0] :: s[1] :: s.data.toList.drop 2 := by
  have h2 : 1 < s.size := by
    rcases Nat.lt_or_ge 1 s.size with h1 | h1
    · exact h1
    · have hl : s.data.toList.length ≤ 1 := h1
      match hs : s.data.toList, hl with
      | [], _ => rw [hs] at h; cases h
      | [c], _ => rw [hs] at h; cases h
  exact ⟨h2, by rw [← drop_cons s 1 h2, ← drop_cons s 0 (by omega)]; rfl⟩
theorem tag_no (l : List UInt8) (h : M5.startsB l = false) : M5.tagR l = (M5.zero, l.drop 0) := by
  unfold M5.tagR
  rw [h]
  rfl
theorem tag_begin (c d : UInt8) (r : List UInt8) (h : M5.startsB (c :: d :: r) = true) (hd : M5.letterB d = true) : M5.tagR (c :: d :: r) = M5.beginR (c :: d :: r) := by
  unfold M5.tagR
  rw [if_pos h]
  show (if M5.letterB d then _ else _ : Tok × List UInt8) = _
  rw [if_pos hd]
/-- What a tag is that no letter begins. -/
theorem tag_else (c d : UInt8) (r : List UInt8) (h : M5.startsB (c :: d :: r) = true) (hd : M5.letterB d = false) : M5.tagR (c :: d :: r) =
    if [60, 33, 45, 45].isPrefixOf (c :: d :: r) then (⟨4, ⟨#[]⟩, [], M5.bs (M5.uptoR [45, 45, 62] ((c :: d :: r).drop 4)).1⟩, (M5.uptoR [45, 45, 62] ((c :: d :: r).drop 4)).2)
    else if [60, 47, 62].isPrefixOf (c :: d :: r) then (M5.zero, (c :: d :: r).drop 3)
    else if d = 47 ∧ (r.head?.map M5.letterB) = some true then
      (if M5.findL [62] r < r.length then (⟨2, M5.bs (M1.fold (r.takeWhile M5.nameB)), [], ⟨#[]⟩⟩, r.drop (M5.findL [62] r + 1)) else (M5.zero, []))
    else (⟨4, ⟨#[]⟩, [], M5.bs (M5.uptoR [62] r).1⟩, (M5.uptoR [62] r).2) := by
  unfold M5.tagR
  rw [if_pos h]
  show (if M5.letterB d then _ else _ : Tok × List UInt8) = _
  rw [if_neg (by rw [hd]; exact Bool.false_ne_true)]
set_option maxHeartbeats 4000000 in
set_option maxRecDepth 100000 in
theorem ref05Tag_easy (s : ByteArray) (w : World) (hs : s.size ≤ 1073741824) (heasy : M5.startsB s.data.toList = true → ∀ h2 : 1 < s.size, M5.letterB s[1] = true) :
    Calls Try.prog 16 #[.string s] w (TokPost (M5.tagR s.data.toList).1 (s.size - (M5.tagR s.data.toList).2.length) w) := by
  have hst := Lib.hid (fun w => ref05Starts s w hs)
  replace heasy := Lib.hid heasy
  obtain ⟨wo, rfl⟩ : ∃ wo : World, wo = w := ⟨_, rfl⟩
  cases hsB : M5.startsB s.data.toList
  · have hP := Lib.hid (tag_no _ hsB)
    generalize M5.tagR s.data.toList = P at *
    go_enter Try.func16, Try.ntmps16
    go_wp2_with (go_at_call 18; refine (hst.out _).mono ?_; rintro e1 w2 ⟨rfl, rfl⟩; rw [hsB])
    have bf := Box.new wo 31 [.int .i64 0, .string ⟨#[]⟩, .slice none 0 0, .string ⟨#[]⟩]
    have q0 := bf.cell (i := 0) rfl
    have q1 := bf.cell (i := 1) rfl
    have q2 := bf.cell (i := 2) rfl
    have q3 := bf.cell (i := 3) rfl
    exact bodyPost_ret (v := .tuple #[.agg #[.int .i64 0, .string ⟨#[]⟩, .slice none 0 0, .string ⟨#[]⟩], .int .i64 0]) (by simp [results, Try.results16, go_sem, q0, q1, q2, q3]) rfl (tokPost_mk (t := M5.zero) (k := 0) hP.out (Nat.zero_le _) rfl (World.ownsRow_nil _ wo.heap.size _ _) (Nat.le_refl _) ((Below.refl _ wo).alloc (Nat.le_refl _) _))
  · obtain ⟨h2, hl⟩ := two_signs hsB
    have hle := Lib.hid (fun w => ref05letter s[1] w)
    cases hlt : M5.letterB s[1]
    · exact absurd (heasy.out hsB h2) (by rw [hlt]; exact Bool.false_ne_true)
    · have hP : Hid (M5.tagR s.data.toList = M5.beginR s.data.toList) := by
        show _ = _
        rw [hl] at hsB ⊢
        exact tag_begin _ _ _ hsB hlt
      have hbg := Lib.hid (fun w => ref05begin s w hs (by omega))
      rw [hP.out]
      clear hP
      generalize M5.beginR s.data.toList = P at *
      replace hl := Lib.hid hl
      go_enter Try.func16, Try.ntmps16
      go_wp2_with (first | (go_at_call 18; refine (hst.out _).mono ?_; rintro e1 w2 ⟨rfl, rfl⟩; rw [hsB]) | (go_at_call 39; refine (hle.out _).mono ?_; rintro e1 w2 ⟨rfl, rfl⟩; rw [hlt]))
      refine (hbg.out _).mono ?_
      rintro e1 w2 ⟨va, rfl, hown, hb2⟩
      have bz2 := (Box.new wo 31 [.int .i64 0, .string ⟨#[]⟩, .slice none 0 0, .string ⟨#[]⟩]).below hb2 (by simp)
      obtain ⟨a, cap, rfl⟩ := own_slice5 hown
      have z0 := bz2.cell (i := 0) rfl
      have z1 := bz2.cell (i := 1) rfl
      have z2 := bz2.cell (i := 2) rfl
      have z3 := bz2.cell (i := 3) rfl
      have fz := bz2.free
      have hbW := bt ((Below.refl _ wo).alloc (Nat.le_refl _) (.cells #[.int .i64 0, .string ⟨#[]⟩, .slice none 0 0, .string ⟨#[]⟩] 31)) hb2
      go_wp2_with fail
      have bf := bz2.four (.int .i64 P.1.kind) (.string P.1.name) (.slice a P.1.attrs.length cap) (.string P.1.text)
      have q0 := bf.cell (i := 0) rfl
      have q1 := bf.cell (i := 1) rfl
      have q2 := bf.cell (i := 2) rfl
      have q3 := bf.cell (i := 3) rfl
      have ho4 := own_four (g := wo.heap.size) hown (by simp) (.int .i64 P.1.kind) (.string P.1.name) (.slice a P.1.attrs.length cap) (.string P.1.text)
      exact bodyPost_ret (v := .tuple #[.agg #[.int .i64 P.1.kind, .string P.1.name, .slice a P.1.attrs.length cap, .string P.1.text], .int .i64 ((s.size - P.2.length : Nat) : Int)]) (by simp [results, Try.results16, go_sem, q0, q1, q2, q3]) rfl ⟨_, rfl, own_le ho4 (by simp), four_below hbW _ _ _ _ (Nat.le_refl _)⟩
theorem cut4 (s : ByteArray) (k : Nat) (wd : ByteArray) (hk : wd.size = k) : ((s.extract 0 k).toList == wd.toList) = wd.data.toList.isPrefixOf s.data.toList := by
  subst hk
  rw [Lib.toList_data, Lib.toList_data, Lib.extract_data, List.drop_zero, Nat.sub_zero]
  show ((s.data.toList.take wd.data.toList.length) == wd.data.toList) = _
  generalize wd.data.toList = a
  generalize s.data.toList = l
  induction a generalizing l with
  | nil => simp
  | cons x a ih =>
    cases l with
    | nil => rfl
    | cons y l =>
      show (y :: l.take a.length == x :: a) = (x == y && a.isPrefixOf l)
      rw [← ih l]
      show (y == x && (l.take a.length == a)) = _
      rw [Bool.beq_comm]
end Go.Proofs.Ytlknmnldblodbaa

/- A map that a call makes by a literal: the insertion at the operation; a look-up with 'ok'; what a row of insertions holds. -/
namespace Go.Proofs.Ytlknmnldblodbaa
open Go.RowKit Go.Maps Go.WideShapes

/-- A map literal's next entry, at the operation. -/
theorem wpList_insert_own {H : Type} {P : Program} (w : World) {ops : Array Oper} {rest : List Oper} {o : Oper} {a : Act} {Q : Exit → Act → World → Prop}
    (hg : o.guard = none) (m x v : Operand) (t : TypeId) (hop : o.op = Op.insert t m x v)
    (k e : TypeId) (K : Keyed P k) (ht : P.underlying t = some (.map k e)) (R : Value → Option (DataW H × List MemPlace)) (b n : Nat) (D : DataW H)
    (hm : a.eval m = .map (some b)) (hown : w.ownsMap P k R b n D) (hn : n < maxLen) (key val : Value) (kl : Lit) (hx : a.eval x = key) (hv : a.eval v = val) (hkey : keyOf P k key = some kl)
    (d : DataW H) (ps : List MemPlace) (hval : R val = some (d, ps))
    (hK : ∀ w', w'.ownsMap P k R b (n + 1) (D.put kl d) → w.grownBy w' (some b) → wpList P ops Q rest (a.put o.dst undef) w') :
    wpList P ops Q (o :: rest) a w := by
  refine wpList_plain hg fun K' hK' => ?_
  obtain ⟨w', hrun, r1, r2⟩ := hown.update K ht hn hkey hval
  unfold Oper.wp
  simp [execOp, hop, hm, hx, hv, hrun, Result.andThen]
  exact hK' _ _ (hK w' r1 r2)

/-- The datum that a row of pairs makes, put in one by one (a later one wins). -/
def rowD (l : List (Lit × DataW Unit)) (D : DataW Unit) : DataW Unit := l.foldl (fun D p => D.put p.1 p.2) D
theorem rowD_isMap : ∀ (l : List (Lit × DataW Unit)) (D : DataW Unit), IsMap D → IsMap (rowD l D)
  | [], _, h => h
  | p :: l, _, h => rowD_isMap l _ (h.put p.1 p.2)
theorem rowD_has : ∀ (l : List (Lit × DataW Unit)) (D : DataW Unit) (k : Lit), IsMap D → (∀ p ∈ l, WideAt.IsKeyLit p.1) → Maps.has (rowD l D) k = (l.any (fun p => p.1.sameKey k) || Maps.has D k)
  | [], _, _, _, _ => by simp [rowD]
  | p :: l, D, k, h, hk => by
    have ih := rowD_has l (D.put p.1 p.2) k (h.put _ _) (fun q hq => hk q (by simp [hq]))
    show Maps.has (rowD l (D.put p.1 p.2)) k = _
    rw [ih, List.any_cons]
    by_cases e : p.1 = k
    · subst e
      rw [has_put_same h (hk p (by simp)), WideAt.sameKey_self (hk p (by simp))]
      simp
    · rw [has_put_other (fun h => e h.symm), sameKey_ne e]
      simp
theorem rowD_other : ∀ (l : List (Lit × DataW Unit)) (D z : DataW Unit) (k : Lit), (∀ p ∈ l, p.1 ≠ k) → (rowD l D).atKey k z = D.atKey k z
  | [], _, _, _, _ => rfl
  | p :: l, D, z, k, h => by
    show (rowD l (D.put p.1 p.2)).atKey k z = _
    rw [rowD_other l _ z k (fun q hq => h q (by simp [hq])), atKey_put_other (fun e => h p (by simp) e.symm)]
theorem rowD_at : ∀ (l : List (Lit × DataW Unit)) (D z : DataW Unit) (p : Lit × DataW Unit), IsMap D → (∀ p ∈ l, WideAt.IsKeyLit p.1) → l.Pairwise (fun p q => p.1 ≠ q.1) → p ∈ l → (rowD l D).atKey p.1 z = p.2
  | [], _, _, _, _, _, _, hp => by simp at hp
  | q :: l, D, z, p, h, hk, hd, hp => by
    obtain ⟨h1, h2⟩ := List.pairwise_cons.1 hd
    show (rowD l (D.put q.1 q.2)).atKey p.1 z = _
    rcases List.mem_cons.1 hp with rfl | hp
    · rw [rowD_other l _ z _ (fun q hq e => h1 q hq e.symm), atKey_put_same h (hk _ (by simp))]
    · exact rowD_at l _ z p (h.put _ _) (fun q hq => hk q (by simp [hq])) h2 hp
theorem ownsMap_below {P : Program} {k : TypeId} {R : Value → Option (DataW Unit × List MemPlace)} {w w' : World} {b n : Nat} {D : DataW Unit} (h : w.ownsMap P k R b n D) (hb : Below w.heap.size w w') : w'.ownsMap P k R b n D :=
  h.kept (row := none) ⟨hb.os, hb.tape, hb.output, hb.size, fun k hk _ => hb.block k hk⟩ (by simp)

/-- 'v, ok := m[k]' of a map to numbers: an equation for the walk. -/
theorem look_ok_int {P : Program} {w : World} {b n : Nat} {D : DataW Unit} {t k e : TypeId} {q : IntKind} (h : w.ownsMap P k (plainElem P e) b n D) (K : Keyed P k) (ht : P.underlying t = some (.map k e)) (he : P.underlying e = some (.int q))
    (hz : (zeroValue e).run P w = .ok (.int q 0) w) {key : Value} {kl : Lit} (hkey : keyOf P k key = some kl) {c : Int} (hc : D.atKey kl (.lit (.int q 0)) = .lit (.int q c)) :
    (Instr.lookup t (.map (some b)) key true).run P w = .ok (.tuple #[.int q c, .bool (Maps.has D kl)]) w := by
  have hw0 : (Lit.int q 0).wf = true := by cases q <;> decide
  obtain ⟨v, ps, hrun, hv⟩ := h.look_ok K ht hz (plainElem_int he hw0) hkey
  obtain ⟨c', rfl, h2, _⟩ := plainElem_int_inv he hv
  simp only [Prod.mk.injEq] at h2
  rw [h2.1] at hc
  cases hc
  exact hrun
end Go.Proofs.Ytlknmnldblodbaa

/- Package refs' functions: what each call gives, for any text. -/
namespace Go.Proofs.Ytlknmnldblodbaa
open Go.RowKit Go.Maps Go.WideShapes

theorem lawS : Keyed Try.prog 9 := string_keyed Try.underlying9
theorem zero32 (w : World) : (zeroValue 21).run Try.prog w = .ok (.int .i32 0) w := by kernel_rfl

/-! ### The map of names -/
/-- The names' map as it reads. -/
def namesL : List (Lit × DataW Unit) := M2.tbl.map fun p => (.string p.1, .lit (.int .i32 (p.2 : Int)))
def namesD : DataW Unit := rowD namesL (.map [])
theorem namesL_keys : ∀ p ∈ namesL, WideAt.IsKeyLit p.1 := by
  intro p hp
  obtain ⟨q, _, rfl⟩ := List.mem_map.1 hp
  trivial
theorem namesL_apart : namesL.Pairwise (fun p q => p.1 ≠ q.1) := by
  rw [namesL, List.pairwise_map]
  exact M2.tbl_apart.imp (fun h e => h (by simpa using e))
theorem names_has (s : List UInt8) : Maps.has namesD (.string s) = (M2.nm s).isSome := by
  unfold namesD
  rw [rowD_has _ _ _ isMap_empty namesL_keys, has_eq, List.any_nil, Bool.or_false]
  rw [Bool.eq_iff_iff, List.any_eq_true]
  constructor
  · rintro ⟨p, hp, h⟩
    obtain ⟨q, hq, rfl⟩ := List.mem_map.1 hp
    have h := WideAt.sameKey_eq h
    simp only [Lit.string.injEq] at h
    rw [← h, M2.nm_of_mem hq]
    rfl
  · intro h
    obtain ⟨n, hn⟩ := Option.isSome_iff_exists.1 h
    exact ⟨_, List.mem_map.2 ⟨_, M2.nm_mem hn, rfl⟩, WideAt.sameKey_self (by trivial)⟩
theorem names_at (s : List UInt8) : namesD.atKey (.string s) (.lit (.int .i32 0)) = .lit (.int .i32 (((M2.nm s).getD 0 : Nat) : Int)) := by
  cases h : M2.nm s with
  | none =>
    refine atKey_of_not_has ?_ _
    rw [names_has, h]
    rfl
  | some n => exact rowD_at namesL _ _ (.string s, .lit (.int .i32 (n : Int))) isMap_empty namesL_keys namesL_apart (List.mem_map.2 ⟨_, M2.nm_mem h, rfl⟩)
abbrev Names (w : World) (b : Nat) : Prop := w.ownsMap Try.prog 9 (plainElem Try.prog 21) b 15 namesD

set_option maxHeartbeats 4000000 in
set_option maxRecDepth 100000 in
theorem refsNames (w : World) :
    Calls Try.prog 82 #[] w fun e w' => ∃ b, e = .returned (.map (some b)) ∧ Names w' b ∧ Below w.heap.size w w' := by
  have upd : ∀ (wa : World) (D : DataW Unit) (n : Nat) (l : List UInt8) (c : Int), wa.ownsMap Try.prog 9 (plainElem Try.prog 21) w.heap.size n D → n < 100 → l.length ≤ 100 → 0 ≤ c → c ≤ 10000 →
      ∃ wb, (Instr.mapUpdate 88 (.map (some w.heap.size)) (.string ⟨l.toArray⟩) (.int .i32 c)).run Try.prog wa = .ok () wb ∧ wb.ownsMap Try.prog 9 (plainElem Try.prog 21) w.heap.size (n + 1) (D.put (.string l) (.lit (.int .i32 c))) ∧ wa.grownBy wb (some w.heap.size) := by
    intro wa D n l c ho hn hl h0 h1
    refine ho.update lawS Try.underlying88 (by unfold maxLen; omega) (WideMaps.keyOf_string_mk Try.underlying9 (s := ⟨l.toArray⟩) (by unfold maxLen; show l.length ≤ _; omega)) (plainElem_int Try.underlying21 ?_)
    have h3 : IntKind.i32.min = -2147483648 := rfl
    have h4 : IntKind.i32.max = 2147483647 := rfl
    simp only [Lit.wf, Bool.and_eq_true, decide_eq_true_eq, h3, h4]
    omega
  have o0 := World.ownsMap_made w Try.prog 9 (plainElem (H := Unit) Try.prog 21)
  have b0 := (Below.refl w.heap.size w).alloc (Nat.le_refl _) (.map #[] 0)
  have hmm := @run_makeMap Try.prog 88 w
  generalize w.alloc (.map #[] 0) = w0 at *
  obtain ⟨w1, r1, o1, g1⟩ := upd w0 _ 0 [97, 109, 112] 38 o0 (by decide) (by decide) (by decide) (by decide)
  obtain ⟨w2, r2, o2, g2⟩ := upd w1 _ 1 [108, 116] 60 o1 (by decide) (by decide) (by decide) (by decide)
  obtain ⟨w3, r3, o3, g3⟩ := upd w2 _ 2 [103, 116] 62 o2 (by decide) (by decide) (by decide) (by decide)
  obtain ⟨w4, r4, o4, g4⟩ := upd w3 _ 3 [113, 117, 111, 116] 34 o3 (by decide) (by decide) (by decide) (by decide)
  obtain ⟨w5, r5, o5, g5⟩ := upd w4 _ 4 [97, 112, 111, 115] 39 o4 (by decide) (by decide) (by decide) (by decide)
  obtain ⟨w6, r6, o6, g6⟩ := upd w5 _ 5 [110, 98, 115, 112] 160 o5 (by decide) (by decide) (by decide) (by decide)
  obtain ⟨w7, r7, o7, g7⟩ := upd w6 _ 6 [99, 111, 112, 121] 169 o6 (by decide) (by decide) (by decide) (by decide)
  obtain ⟨w8, r8, o8, g8⟩ := upd w7 _ 7 [114, 101, 103] 174 o7 (by decide) (by decide) (by decide) (by decide)
  obtain ⟨w9, r9, o9, g9⟩ := upd w8 _ 8 [100, 101, 103] 176 o8 (by decide) (by decide) (by decide) (by decide)
  obtain ⟨w10, r10, o10, g10⟩ := upd w9 _ 9 [109, 105, 100, 100, 111, 116] 183 o9 (by decide) (by decide) (by decide) (by decide)
  obtain ⟨w11, r11, o11, g11⟩ := upd w10 _ 10 [116, 105, 109, 101, 115] 215 o10 (by decide) (by decide) (by decide) (by decide)
  obtain ⟨w12, r12, o12, g12⟩ := upd w11 _ 11 [110, 100, 97, 115, 104] 8211 o11 (by decide) (by decide) (by decide) (by decide)
  obtain ⟨w13, r13, o13, g13⟩ := upd w12 _ 12 [109, 100, 97, 115, 104] 8212 o12 (by decide) (by decide) (by decide) (by decide)
  obtain ⟨w14, r14, o14, g14⟩ := upd w13 _ 13 [104, 101, 108, 108, 105, 112] 8230 o13 (by decide) (by decide) (by decide) (by decide)
  obtain ⟨w15, r15, o15, g15⟩ := upd w14 _ 14 [101, 117, 114, 111] 8364 o14 (by decide) (by decide) (by decide) (by decide)
  have hb := (World.grownBy.trans g1 (g2.trans (g3.trans (g4.trans (g5.trans (g6.trans (g7.trans (g8.trans (g9.trans (g10.trans (g11.trans (g12.trans (g13.trans (g14.trans g15))))))))))))))
  have hB := Lib.hid (b0.grown hb b0.size (fun k hk => by cases hk; exact Nat.le_refl _))
  have hN : Hid (Names w15 w.heap.size) := o15
  clear upd b0 o0 o1 o2 o3 o4 o5 o6 o7 o8 o9 o10 o11 o12 o13 o14 o15 g1 g2 g3 g4 g5 g6 g7 g8 g9 g10 g11 g12 g13 g14 g15 hb
  go_enter Try.func82, Try.ntmps82
  go_wp2
  go_ret
  exact ⟨_, rfl, hN.out, hB.out⟩

/-! ### Numbers -/
set_option maxHeartbeats 1000000 in
theorem refsDigit (r : Int) (w : World) :
    Calls Try.prog 115 #[.int .i32 r] w fun e w' => e = .returned (.int .i32 (M2.digZ r)) ∧ w' = w := by
  by_cases h1 : 48 ≤ r ∧ r ≤ 57
  · rw [show M2.digZ r = r - 48 from if_pos h1]
    obtain ⟨h1, h2⟩ := h1
    go_enter Try.func115, Try.ntmps115
    go_wp2
    go_ret
    exact ⟨rfl, rfl⟩
  by_cases h2 : 97 ≤ r ∧ r ≤ 102
  · rw [show M2.digZ r = r - 97 + 10 by rw [M2.digZ, if_neg h1, if_pos h2]]
    obtain ⟨h2, h3⟩ := h2
    have hd : decide (r ≤ 57) = false := decide_eq_false (by omega)
    clear h1
    go_enter Try.func115, Try.ntmps115
    go_wp2
    go_ret
    exact ⟨rfl, rfl⟩
  by_cases h3 : 65 ≤ r ∧ r ≤ 70
  · rw [show M2.digZ r = r - 65 + 10 by rw [M2.digZ, if_neg h1, if_neg h2, if_pos h3]]
    obtain ⟨h3, h4⟩ := h3
    have hd : decide (r ≤ 57) = false := decide_eq_false (by omega)
    have hd2 : decide (97 ≤ r) = false := decide_eq_false (by omega)
    clear h1 h2
    go_enter Try.func115, Try.ntmps115
    go_wp2
    go_ret
    exact ⟨rfl, rfl⟩
  · rw [show M2.digZ r = -1 by rw [M2.digZ, if_neg h1, if_neg h2, if_neg h3]]
    go_enter Try.func115, Try.ntmps115
    go_wp2
    all_goals first | (exfalso; omega) | (go_ret; exact ⟨rfl, rfl⟩)

set_option maxHeartbeats 1000000 in
theorem refsCharacter (n : Int) (w : World) :
    Calls Try.prog 110 #[.int .i32 n] w fun e w' => e = .returned (.int .i32 (M2.chr n)) ∧ w' = w := by
  by_cases h : n = 0 ∨ n = 13 ∨ (55296 ≤ n ∧ n ≤ 57343) ∨ 1114111 < n
  · rw [show M2.chr n = 65533 from if_pos h]
    go_enter Try.func110, Try.ntmps110
    go_wp2
    all_goals first | (exfalso; omega) | (go_ret; exact ⟨rfl, rfl⟩)
  · rw [show M2.chr n = n from if_neg h]
    have e0 : (n == 0) = false := by simpa using fun e => h (Or.inl e)
    have e1 : (n == 13) = false := by simpa using fun e => h (Or.inr (Or.inl e))
    have e2 : decide (1114111 < n) = false := decide_eq_false (fun e => h (Or.inr (Or.inr (Or.inr e))))
    by_cases h5 : 55296 ≤ n
    · have e3 : decide (n ≤ 57343) = false := decide_eq_false (fun e => h (Or.inr (Or.inr (Or.inl ⟨h5, e⟩))))
      clear h
      go_enter Try.func110, Try.ntmps110
      go_wp2
      go_ret
      exact ⟨rfl, rfl⟩
    · have e4 : decide (55296 ≤ n) = false := decide_eq_false h5
      clear h
      go_enter Try.func110, Try.ntmps110
      go_wp2
      go_ret
      exact ⟨rfl, rfl⟩

/-- 'next' on a text, by lists. -/
theorem nextDec {P : Program} (w : World) (k : Nat) (s : ByteArray) (pos : Nat) (hk : w.heap[k]? = some (.stringIter s pos)) (h : pos < s.size) : ∀ ty,
    (Instr.next (.pointer (some ⟨k, 0, none⟩)) true ty).run P w =
      .ok (.tuple #[.bool true, .int .i64 pos, .int .i32 (M1.dec (s.data.toList.drop pos)).1]) (w.iterAt k s (pos + (M1.dec (s.data.toList.drop pos)).2)) := fun ty => by
  rw [Lib.run_next_any_at w k s pos ty hk h, M1.decode_eq]

set_option maxHeartbeats 2000000 in
set_option maxRecDepth 100000 in
theorem refsNumber (s : ByteArray) (b m : Nat) (w : World) (hb0 : 1 ≤ b) (hb : b ≤ 16) (hm : m ≤ 7) (hpow : ∀ k, k ≤ m → ((b : Int)) ^ k ≤ 16777216) (hs : s.size ≤ 9223372036854775807) :
    Calls Try.prog 109 #[.string s, .int .i32 (b : Int), .int .i64 (m : Int)] w fun e w' => e = .returned (.tuple #[.int .i32 (M2.val b (M2.digs b m s.data.toList)), .int .i64 ((M2.digs b m s.data.toList).length : Int)]) ∧ Below w.heap.size w w' := by
  have hsz : s.size = s.data.toList.length := rfl
  generalize hl : s.data.toList = l at *
  replace hpow := Lib.hid hpow
  go_enter Try.func109, Try.ntmps109
  go_wp2
  go_loopw [8, 9] (fun u8 u9 wr => ∃ k : Nat, k ≤ l.length ∧ k ≤ m ∧ u8 = .int .i32 (M2.val b (l.take k)) ∧ u9 = .int .i64 (k : Int) ∧ wr.heap[w.heap.size]? = some (.stringIter s k) ∧ Below w.heap.size w wr ∧ Hid (∀ c ∈ l.take k, M2.isD b c = true)) (fun _ _ wr => l.length - wr.iterPos w.heap.size)
  case atStart =>
    exact ⟨0, by omega, by omega, rfl, rfl, World.iter_heap w _ 0, (Below.refl _ w).alloc (Nat.le_refl _) _, by intro c hc; simp at hc⟩
  case round =>
    obtain ⟨k, hk, hkm, rfl, rfl, hit, hbw, hall⟩ := hrel
    have hbd := M2.val_bd b _ hall.out
    have hlk : (l.take k).length = k := by rw [List.length_take]; omega
    have hpk := hpow.out k hkm
    rw [hlk] at hbd
    have hfin : (k = m ∨ k = l.length ∨ ∃ c, l[k]? = some c ∧ M2.isD b c = false) → M2.digs b m l = l.take k := M2.digs_of b m l k hk hkm hall.out
    by_cases hp : k < l.length
    · have hdr : l.drop k = l[k] :: l.drop (k + 1) := List.drop_eq_getElem_cons hp
      have hnx := nextDec (P := Try.prog) wr w.heap.size s k hit (by omega)
      rw [hl, hdr] at hnx
      have htk : l.take (k + 1) = l.take k ++ [l[k]] := List.take_succ_eq_append_getElem hp
      have hfc := fun (h : M2.isD b l[k] = false) => hfin (Or.inr (Or.inr ⟨l[k], List.getElem?_eq_getElem hp, h⟩))
      have hfm := fun (h : k = m) => hfin (Or.inl h)
      have hal : M2.isD b l[k] = true → ∀ c ∈ l.take (k + 1), M2.isD b c = true := by
        intro h c hc
        rw [htk] at hc
        rcases List.mem_append.1 hc with hc | hc
        · exact hall.out c hc
        · simp at hc; subst hc; exact h
      have hva : M2.val b (l.take (k + 1)) = M2.val b (l.take k) * b + M2.digZ l[k].toNat := by rw [htk, M2.val_snoc]
      have hlo := M2.dec_lo l[k] (l.drop (k + 1))
      have hhi := M2.dec_hi l[k] (l.drop (k + 1))
      have hdp := M1.dec_pos (l[k]'hp :: l.drop (k + 1)) (List.cons_ne_nil _ _)
      have hdlt := M1.dec_lt (l[k]'hp :: l.drop (k + 1))
      have hdzb := M2.digZ_bd l[k].toNat
      generalize l[k] = c at *
      generalize l.drop (k + 1) = t at *
      generalize M1.dec (c :: t) = rw_ at *
      obtain ⟨r, wd⟩ := rw_
      simp only at hnx hhi hdlt hdp
      have hbw1 := Lib.below_iterAt hbw (Nat.le_refl _) s (k + wd)
      have hit1 := Lib.iterAt_heap wr w.heap.size s k (k + wd) hit
      have hsz1 := Lib.iterAt_size wr w.heap.size s (k + wd)
      generalize wr.iterAt w.heap.size s (k + wd) = w1 at *
      have hsz2 : w.heap.size < w1.heap.size := by
        have := (Array.getElem?_eq_some_iff.1 hit1).1
        exact this
      clear hfin hdr htk
      replace hfc := Lib.hid hfc
      replace hfm := Lib.hid hfm
      replace hal := Lib.hid hal
      replace hva := Lib.hid hva
      by_cases hd : M2.isD b c = true
      · have hc128 := M2.isD_ascii hd
        have hrw := hlo hc128
        simp only [Prod.mk.injEq] at hrw
        obtain ⟨rfl, rfl⟩ := hrw
        have hd2 := of_decide_eq_true (show decide (0 ≤ M2.digZ c.toNat ∧ M2.digZ c.toNat < b) = true from hd)
        obtain ⟨hd3, hd4⟩ := hd2
        have hal2 := Lib.hid (hal.out hd)
        clear hal hfc hlo hhi hd hdlt hdp
        by_cases hkm2 : k = m
        · replace hfm := Lib.hid (hfm.out hkm2)
          have hne : ((k : Int) == (m : Int)) = true := by rw [hkm2]; simp
          clear hkm2
          have hge : decide ((b : Int) ≤ M2.digZ c.toNat) = false := decide_eq_false (by omega)
          clear hva
          go_wp2_with (go_at_call 115; refine (refsDigit _ _).mono ?_; rintro e w2 ⟨rfl, rfl⟩)
          go_ret2
          rw [hfm.out, hlk]
          exact ⟨rfl, hbw1⟩
        · have hne : ((k : Int) == (m : Int)) = false := by simpa using fun e => hkm2 (by omega)
          have hge : decide ((b : Int) ≤ M2.digZ c.toNat) = false := decide_eq_false (by omega)
          have hm1 : M2.val b (l.take k) * b ≤ 16777216 * 16 := Int.mul_le_mul (by omega) (by omega) (by omega) (by omega)
          have hm0 : 0 ≤ M2.val b (l.take k) * b := Int.mul_nonneg hbd.1 (by omega)
          go_wp2_with (go_at_call 115; refine (refsDigit _ _).mono ?_; rintro e w2 ⟨rfl, rfl⟩)
          go_roundw
          case rel => exact ⟨k + 1, by omega, by omega, by rw [hva.out], by go_num, hit1, hbw1, hal2.out⟩
          case measure => rw [iterPos_of hit1, iterPos_of hit]; omega
      · have hdf : M2.isD b c = false := by simpa using hd
        replace hfc := Lib.hid (hfc.out hdf)
        have hno : M2.digZ r < 0 ∨ (b : Int) ≤ M2.digZ r := by
          rcases Nat.lt_or_ge c.toNat 128 with h1 | h1
          · have hrw := hlo h1
            simp only [Prod.mk.injEq] at hrw
            obtain ⟨rfl, rfl⟩ := hrw
            exact M2.isD_no hdf
          · have h2 := hhi h1
            rw [M2.digZ_big _ (by omega)]
            omega
        have hdz := M2.digZ_bd r
        clear hal hva hfm hlo hhi hd hdf hdzb hpk
        rcases hno with hno | hno
        · go_wp2_with (go_at_call 115; refine (refsDigit _ _).mono ?_; rintro e w2 ⟨rfl, rfl⟩)
          go_ret2
          rw [hfc.out, hlk]
          exact ⟨rfl, hbw1⟩
        · have h0 : decide (M2.digZ r < 0) = false := decide_eq_false (by omega)
          go_wp2_with (go_at_call 115; refine (refsDigit _ _).mono ?_; rintro e w2 ⟨rfl, rfl⟩)
          go_ret2
          rw [hfc.out, hlk]
          exact ⟨rfl, hbw1⟩
    · have hnx := fun ty => Lib.run_next_end_at (P := Try.prog) wr w.heap.size s k ty hit (by omega)
      have hfin := Lib.hid (hfin (Or.inr (Or.inl (by omega))))
      go_wp2
      go_ret2
      rw [hfin.out, hlk]
      exact ⟨rfl, hbw⟩

/-! ### References -/
/-- What a call answers of a reference. -/
def ans (o : Option (Int × Nat)) : Value := .tuple #[.int .i32 ((o.map (·.1)).getD 0), .int .i64 (((o.map (·.2)).getD 0 : Nat) : Int)]
theorem ans_mk (o : Option (Int × Nat)) : ∃ x y, ans o = .tuple #[.int .i32 x, .int .i64 y] := ⟨_, _, rfl⟩
theorem ans_none : ans none = .tuple #[.int .i32 0, .int .i64 0] := rfl
theorem ans_some (r : Int) (n : Nat) : ans (some (r, n)) = .tuple #[.int .i32 r, .int .i64 (n : Int)] := rfl

set_option maxHeartbeats 2000000 in
set_option maxRecDepth 100000 in
theorem refsNumbered (s : ByteArray) (f b m : Nat) (w : World) (hf : f ≤ s.size) (hb0 : 1 ≤ b) (hb : b ≤ 16) (hm : m ≤ 7) (hpow : ∀ k, k ≤ m → ((b : Int)) ^ k ≤ 16777216) (hs : s.size ≤ 1073741824) :
    Calls Try.prog 101 #[.string s, .int .i64 (f : Int), .int .i32 (b : Int), .int .i64 (m : Int)] w fun e w' => e = .returned (ans (M2.num f b m s.data.toList)) ∧ Below w.heap.size w w' := by
  have hsz : s.size = s.data.toList.length := rfl
  have hN := refsNumber (s.extract f s.size) b m w hb0 hb hm hpow (by rw [ByteArray.size_extract]; omega)
  rw [extract_end] at hN
  have hdl := M2.digs_len b m (s.data.toList.drop f)
  rw [List.length_drop] at hdl
  have hbd := M2.val_bd b _ (M2.digs_all b m (s.data.toList.drop f))
  have hpk := hpow _ hdl.1
  have hnum := Lib.hid (rfl : M2.num f b m s.data.toList = M2.num f b m s.data.toList)
  replace hnum : Hid (M2.num f b m s.data.toList = if (M2.digs b m (s.data.toList.drop f)).length = 0 ∨ s.data.toList[f + (M2.digs b m (s.data.toList.drop f)).length]? ≠ some 59 then none
    else some (M2.chr (M2.val b (M2.digs b m (s.data.toList.drop f))), f + (M2.digs b m (s.data.toList.drop f)).length + 1)) := rfl
  generalize M2.digs b m (s.data.toList.drop f) = ds at *
  generalize M2.num f b m s.data.toList = R at *
  generalize M2.val b ds = v at *
  generalize ds.length = k at *
  replace hN := Lib.hid hN
  clear hpow
  by_cases hk : k = 0
  · have hR := Lib.hid (hnum.out.trans (if_pos (Or.inl hk)))
    clear hnum hsz
    subst hk
    go_enter Try.func101, Try.ntmps101
    go_wp2_with (go_at_call 109; refine hN.out.mono ?_; rintro e w1 ⟨rfl, hb1⟩)
    go_ret2
    rw [hR.out, ans_none]
    exact ⟨rfl, hb1⟩
  by_cases he : f + k = s.size
  · have hR := Lib.hid (hnum.out.trans (if_pos (Or.inr (by rw [List.getElem?_eq_none (by omega)]; simp))))
    have hkb : ((k : Int) == 0) = false := by simpa using hk
    have heb : ((f : Int) + (k : Int) == (s.size : Int)) = true := by simpa using (by omega : (f : Int) + (k : Int) = (s.size : Int))
    clear hnum hk he hsz
    go_enter Try.func101, Try.ntmps101
    go_wp2_with (go_at_call 109; refine hN.out.mono ?_; rintro e w1 ⟨rfl, hb1⟩)
    go_ret2
    rw [hR.out, ans_none]
    exact ⟨rfl, hb1⟩
  have hlt : f + k < s.size := by omega
  have hgt : s.data.toList[f + k]? = some s[f + k] := by
    rw [List.getElem?_eq_getElem (by omega)]
    rfl
  rw [hgt] at hnum
  have hkb : ((k : Int) == 0) = false := by simpa using hk
  have heb : ((f : Int) + (k : Int) == (s.size : Int)) = false := by simpa using (by omega : ¬ (f : Int) + (k : Int) = (s.size : Int))
  by_cases h59 : s[f + k] = 59
  · have hR := Lib.hid (hnum.out.trans (if_neg (by rw [h59]; simp [hk])))
    clear hnum hk he hgt hsz
    go_enter Try.func101, Try.ntmps101
    go_wp2_with (go_at_call 109; refine hN.out.mono ?_; rintro e w1 ⟨rfl, hb1⟩)
    go_wp2_with (go_at_call 110; refine (refsCharacter _ _).mono ?_; rintro e w2 ⟨rfl, rfl⟩)
    go_ret2
    rw [hR.out, ans_some]
    exact ⟨rfl, hb1⟩
  · have hR := Lib.hid (hnum.out.trans (if_pos (Or.inr (by simpa using h59))))
    have hne : ((s[f + k].toNat : Int) != 59) = true := by
      rw [bne_iff_ne]; intro h; exact h59 (UInt8.toNat_inj.1 (by simpa using (by omega : s[f + k].toNat = 59)))
    clear hnum hk he hgt hsz h59
    go_enter Try.func101, Try.ntmps101
    go_wp2_with (go_at_call 109; refine hN.out.mono ?_; rintro e w1 ⟨rfl, hb1⟩)
    go_ret2
    rw [hR.out, ans_none]
    exact ⟨rfl, hb1⟩

/-- 'v, ok := known[s]' in the names' map, for the walk. -/
theorem names_look {w : World} {b : Nat} (h : Names w b) (s : ByteArray) (hs : s.size ≤ 1073741824) :
    (Instr.lookup 88 (.map (some b)) (.string s) true).run Try.prog w = .ok (.tuple #[.int .i32 (((M2.nm s.data.toList).getD 0 : Nat) : Int), .bool (M2.nm s.data.toList).isSome]) w := by
  have := look_ok_int h lawS Try.underlying88 Try.underlying21 (zero32 w) (WideMaps.keyOf_string_mk Try.underlying9 (s := s) (by unfold maxLen; omega)) (names_at s.data.toList)
  rw [names_has] at this
  exact this

set_option maxHeartbeats 2000000 in
set_option maxRecDepth 100000 in
theorem refsNamed (s : ByteArray) (b : Nat) (w : World) (hN : Names w b) (h1 : 1 ≤ s.size) (hs : s.size ≤ 1073741824) :
    Calls Try.prog 102 #[.string s, .map (some b)] w fun e w' => e = .returned (ans (M2.named s.data.toList)) ∧ w' = w := by
  have hnear : (s.extract 1 (min (s.size : Int) 8).toNat).data.toList = M2.near s.data.toList := by
    rw [Lib.extract_data, show (min (s.size : Int) 8).toNat = min s.size 8 by omega]
    unfold M2.near
    have : s.data.toList.length = s.size := rfl
    rcases Nat.le_total s.size 8 with h | h
    · rw [Nat.min_eq_left h, List.take_of_length_le (by rw [List.length_drop]; omega), List.take_of_length_le (by rw [List.length_drop]; omega)]
    · rw [Nat.min_eq_right h]
  have hnsz : (s.extract 1 (min (s.size : Int) 8).toNat).size ≤ 7 := by rw [ByteArray.size_extract]; omega
  generalize hR : M2.named s.data.toList = R
  unfold M2.named at hR
  rw [← hnear] at hR
  replace hR := Lib.hid hR
  clear hnear
  go_enter Try.func102, Try.ntmps102
  go_wp2_with fail
  generalize s.extract 1 (min (s.size : Int) 8).toNat = nr at *
  refine (sIndexByte nr 59 w).mono ?_
  rintro e w' ⟨rfl, rfl⟩
  rw [show (59 : Int).toNat.toUInt8 = 59 from rfl]
  have hge := Lib.indexByte_ge nr.data.toList 59
  have hat := fun (o : Nat) (h : Lib.indexByte nr.data.toList 59 = o) => (List.getElem?_eq_some_iff.1 (Lib.indexByte_some h).1).1
  generalize Lib.indexByte nr.data.toList 59 = i at *
  by_cases hi : i < 0
  · have hR2 := Lib.hid (hR.out.symm.trans (if_pos hi))
    clear hR hat
    go_wp2
    go_ret2
    rw [hR2.out, ans_none]
    exact ⟨rfl, rfl⟩
  · obtain ⟨k, rfl⟩ : ∃ k : Nat, i = k := ⟨i.toNat, by omega⟩
    have hk : k < nr.size := hat k rfl
    have hR2 := hR.out.symm.trans (if_neg hi)
    clear hR hat
    have hl := names_look hN (nr.extract 0 k) (by rw [ByteArray.size_extract]; omega)
    have hx : (nr.extract 0 k).data.toList = nr.data.toList.take k := by rw [Lib.extract_data]; simp
    rw [hx] at hl
    rw [Int.toNat_natCast] at hR2
    cases hq : M2.nm (nr.data.toList.take k) with
    | none =>
      rw [hq] at hl hR2
      simp only [Option.getD_none, Option.isSome_none] at hl
      replace hR2 := Lib.hid (show R = none from hR2)
      clear hx hq hi
      go_wp2
      go_ret2
      rw [hR2.out, ans_none]
      exact ⟨rfl, rfl⟩
    | some n =>
      rw [hq] at hl hR2
      simp only [Option.getD_some, Option.isSome_some] at hl
      replace hR2 := Lib.hid (show R = some ((n : Int), 1 + k + 1) from hR2)
      clear hx hq hi
      go_wp2
      go_ret2
      rw [hR2.out, ans_some]
      exact ⟨rfl, rfl⟩

theorem hp_of {s : ByteArray} (p : List UInt8) (q : Bool) (h : decide (s.data.toList.take p.length = p) = q) : Lib.hasPrefix s.data.toList p = q := by
  rw [← h, Bool.eq_iff_iff, decide_eq_true_iff, Lib.hasPrefix, List.isPrefixOf_iff_prefix, List.prefix_iff_eq_take]
  exact eq_comm

set_option maxHeartbeats 2000000 in
set_option maxRecDepth 100000 in
/-- The helper 'one' at a text that begins with &. -/
theorem refsOne' (s : ByteArray) (b : Nat) (w : World) (hN : Names w b) (h38 : s.data.toList.head? = some 38) (hs : s.size ≤ 1073741824) :
    Calls Try.prog 85 #[.string s, .map (some b)] w fun e w' => e = .returned (ans (M2.one s.data.toList)) ∧ Below w.heap.size w w' := by
  have h1 : 1 ≤ s.size := by
    have : s.data.toList.length = s.size := rfl
    cases hl : s.data.toList with
    | nil => rw [hl] at h38; cases h38
    | cons c t => rw [hl] at this; simp at this; omega
  have hone : M2.one s.data.toList = if s.data.toList.take 3 = [38, 35, 120] ∨ s.data.toList.take 3 = [38, 35, 88] then M2.num 3 16 6 s.data.toList
      else if s.data.toList.take 2 = [38, 35] then M2.num 2 10 7 s.data.toList else M2.named s.data.toList := by
    unfold M2.one
    rw [if_neg (by simp [h38])]
  have len := fun (k : Nat) (p : List UInt8) (h : s.data.toList.take k = p) (hp : p.length = k) => (by
    have := congrArg List.length h
    rw [List.length_take, hp] at this
    have e : s.data.toList.length = s.size := rfl
    omega : k ≤ s.size)
  have H16 : 3 ≤ s.size → Calls Try.prog 101 #[.string s, .int .i64 3, .int .i32 16, .int .i64 6] w fun e w' => e = .returned (ans (M2.num 3 16 6 s.data.toList)) ∧ Below w.heap.size w w' := fun h => refsNumbered s 3 16 6 w h (by omega) (by omega) (by omega) (by decide) hs
  have H10 : 2 ≤ s.size → Calls Try.prog 101 #[.string s, .int .i64 2, .int .i32 10, .int .i64 7] w fun e w' => e = .returned (ans (M2.num 2 10 7 s.data.toList)) ∧ Below w.heap.size w w' := fun h => refsNumbered s 2 10 7 w h (by omega) (by omega) (by omega) (by decide) hs
  have HN := refsNamed s b w hN h1 hs
  have px := hp_of (s := s) [38, 35, 120]
  have pX := hp_of (s := s) [38, 35, 88]
  have p2 := hp_of (s := s) [38, 35]
  simp only [List.length_cons, List.length_nil] at px pX p2
  generalize M2.one s.data.toList = R at *
  clear h38 hN
  obtain ⟨x16, y16, e16⟩ := ans_mk (M2.num 3 16 6 s.data.toList)
  obtain ⟨x10, y10, e10⟩ := ans_mk (M2.num 2 10 7 s.data.toList)
  obtain ⟨xn, yn, en⟩ := ans_mk (M2.named s.data.toList)
  rw [e16] at H16
  rw [e10] at H10
  rw [en] at HN
  by_cases c1 : s.data.toList.take 3 = [38, 35, 120]
  · have hR := Lib.hid ((congrArg ans (hone.trans (if_pos (Or.inl c1)))).trans e16)
    have q1 := px true (decide_eq_true c1)
    have H := Lib.hid (H16 (len 3 _ c1 rfl))
    clear hone len H16 H10 HN px pX p2 c1 e16 e10 en
    go_enter Try.func85, Try.ntmps85
    go_wp2_with (first | (go_at_call 37; refine (hasPrefix_any _ _ _).mono ?_; rintro e w1 ⟨rfl, rfl⟩) | (go_at_call 101; refine H.out.mono ?_; rintro e w2 ⟨rfl, hb⟩))
    go_ret2
    exact ⟨by rw [hR.out]; rfl, hb⟩
  have q1 := px false (decide_eq_false c1)
  by_cases c2 : s.data.toList.take 3 = [38, 35, 88]
  · have hR := Lib.hid ((congrArg ans (hone.trans (if_pos (Or.inr c2)))).trans e16)
    have q2 := pX true (decide_eq_true c2)
    have H := Lib.hid (H16 (len 3 _ c2 rfl))
    clear hone len H16 H10 HN px pX p2 c1 c2 e16 e10 en
    go_enter Try.func85, Try.ntmps85
    go_wp2_with (first | (go_at_call 37; refine (hasPrefix_any _ _ _).mono ?_; rintro e w1 ⟨rfl, rfl⟩) | (go_at_call 101; refine H.out.mono ?_; rintro e w2 ⟨rfl, hb⟩))
    go_ret2
    exact ⟨by rw [hR.out]; rfl, hb⟩
  have q2 := pX false (decide_eq_false c2)
  rw [if_neg (by rintro (h | h); exact c1 h; exact c2 h)] at hone
  by_cases c3 : s.data.toList.take 2 = [38, 35]
  · have hR := Lib.hid ((congrArg ans (hone.trans (if_pos c3))).trans e10)
    have q3 := p2 true (decide_eq_true c3)
    have H := Lib.hid (H10 (len 2 _ c3 rfl))
    clear hone len H16 H10 HN px pX p2 c1 c2 c3 e16 e10 en
    go_enter Try.func85, Try.ntmps85
    go_wp2_with (first | (go_at_call 37; refine (hasPrefix_any _ _ _).mono ?_; rintro e w1 ⟨rfl, rfl⟩) | (go_at_call 101; refine H.out.mono ?_; rintro e w2 ⟨rfl, hb⟩))
    go_ret2
    exact ⟨by rw [hR.out]; rfl, hb⟩
  · have hR := Lib.hid ((congrArg ans (hone.trans (if_neg c3))).trans en)
    have q3 := p2 false (decide_eq_false c3)
    have H := Lib.hid HN
    clear hone len H16 H10 HN px pX p2 c1 c2 c3 e16 e10 en
    go_enter Try.func85, Try.ntmps85
    go_wp2_with (first | (go_at_call 37; refine (hasPrefix_any _ _ _).mono ?_; rintro e w1 ⟨rfl, rfl⟩) | (go_at_call 102; refine H.out.mono ?_; rintro e w2 ⟨rfl, rfl⟩))
    go_ret2
    exact ⟨by rw [hR.out]; rfl, Below.refl _ _⟩


end Go.Proofs.Ytlknmnldblodbaa

/- Package refs' Decode and Escape: what each call gives, for any text. -/
namespace Go.Proofs.Ytlknmnldblodbaa
open Go.RowKit Go.Maps Go.WideShapes

theorem names_keep {w w' : World} {b B : Nat} (h : Names w b) (hb : Below B w w') (hlt : b < B) : Names w' b := by
  obtain ⟨es, clock, h1, h2⟩ := h
  exact ⟨es, clock, by rw [hb.block b hlt]; exact h1, h2⟩
theorem grown_below {w w' : World} (hb : Below w.heap.size w w') : w.grownBy w' none := ⟨hb.os, hb.tape, hb.output, hb.size, fun k hk _ => hb.block k hk⟩
theorem bldrAt_below {T e : TypeId} {B b : Nat} {p : Value} {bs : List Value} {w w' : World} (h : Lib.BuilderAtF T e B b p bs w) (hb : Below w.heap.size w w') : Lib.BuilderAtF T e B b p bs w' := by
  have hlt := h.lt
  obtain ⟨hB, v, hbk, hown, hne⟩ := h
  refine ⟨hB, v, by rw [hb.block b hlt]; exact hbk, hown.kept (grown_below hb) (by cases v.ownBlock <;> simp), hne⟩
theorem bldr_below {T e : TypeId} {B b : Nat} {bs : List Value} {w w' : World} (h : Lib.IsBuilderF T e B b bs w) (hb : Below w.heap.size w w') : Lib.IsBuilderF T e B b bs w' :=
  h.imp (fun h => bldrAt_below h hb) (fun h => bldrAt_below h hb)
theorem bldr_lt {T e : TypeId} {B b : Nat} {bs : List Value} {w : World} (h : Lib.IsBuilderF T e B b bs w) : b < w.heap.size := by
  rcases h with h | h <;> exact h.lt

/-- How long a text in a slot is. -/
def strSz : Value → Nat
  | .string s => s.size
  | _ => 0

set_option maxHeartbeats 4000000 in
set_option maxRecDepth 100000 in
theorem refsDecode (s : ByteArray) (w : World) (hs : s.size ≤ 1073741824) :
    Calls Try.prog 57 #[.string s] w fun e w' => e = .returned (.string ⟨(M2.decode s.data.toList).toArray⟩) ∧ Below w.heap.size w w' := by
  by_cases hc : (38 : UInt8) ∈ s.data.toList
  · have hge : decide (0 ≤ Lib.indexByte s.data.toList 38) = true := by
      refine decide_eq_true ?_
      have h1 := Lib.indexByte_ge s.data.toList 38
      rcases Int.lt_or_le (Lib.indexByte s.data.toList 38) 0 with h2 | h2
      · exfalso
        obtain ⟨k, hk⟩ := List.getElem?_of_mem hc
        exact Lib.indexByte_none (by omega) k hk
      · exact h2
    clear hc
    generalize hD : M2.decode s.data.toList = D
    replace hD := Lib.hid hD
    go_enter Try.func57, Try.ntmps57
    go_wp2_with fail
    refine (sContains1 s 38 w).mono ?_
    rintro e w0 ⟨rfl, rfl⟩
    rw [hge]
    clear hge
    go_wp2_with fail
    refine (refsNames _).mono ?_
    rintro e w1 ⟨b, rfl, hN, b1⟩
    have hblt := hN.lt
    go_wp2
    go_loopw [0] (fun u0 wr => ∃ (t : ByteArray) (acc : List UInt8), u0 = .string t ∧ t.size ≤ s.size ∧ acc.length ≤ 4 * (s.size - t.size) ∧ Lib.IsBuilderF 92 5 w1.heap.size w1.heap.size (u8s acc) wr ∧ Names wr b ∧ Below w1.heap.size w1 wr ∧ Hid (D = acc ++ M2.decode t.data.toList)) (fun u0 _ => strSz u0)
    case atStart =>
      exact ⟨s, [], rfl, by omega, by simp, Lib.IsBuilderF.of (Lib.fresh_isBuilder 92 5 w1), hN.alloc _, (Below.refl _ w1).alloc (Nat.le_refl _) _, hD.out.symm⟩
    case round =>
      obtain ⟨t, acc, rfl, htl, hal, hI, hNr, hbr, hacc⟩ := hrel
      have htz : t.data.toList.length = t.size := rfl
      have hge := Lib.indexByte_ge t.data.toList 38
      have hno := Lib.indexByte_none (l := t.data.toList) (c := 38)
      have hso := fun o => Lib.indexByte_some (l := t.data.toList) (c := 38) (o := o)
      have hB := hbr.size
      go_wp2_with fail
      refine (sIndexByte t 38 wr).mono ?_
      rintro e w' ⟨rfl, rfl⟩
      rw [show (38 : Int).toNat.toUInt8 = 38 from rfl]
      generalize Lib.indexByte t.data.toList 38 = i at *
      by_cases hi : i < 0
      · have h38 : (38 : UInt8) ∉ t.data.toList := fun hm => by
          obtain ⟨k, hk⟩ := List.getElem?_of_mem hm
          exact hno (by omega) k hk
        have hd := Lib.hid (hacc.out.trans (congrArg (acc ++ ·) (M2.decode_self _ h38)))
        clear hno hso h38 hacc htz hge
        go_wp2_with fail
        refine (bWriteString w1.heap.size w1.heap.size (u8s acc) t _ hI (by rw [u8s_length]; omega) hB).mono ?_
        rintro e w2 ⟨rfl, hI2, b2, k2⟩
        have hI3 : Lib.IsBuilderF 92 5 w1.heap.size w1.heap.size (u8s (acc ++ t.data.toList)) w2 := by rw [u8s_append]; exact Or.inr hI2
        have hz2 := b2.size
        go_wp2_with fail
        refine (bString w1.heap.size w1.heap.size _ w2 hI3 (by omega)).mono ?_
        rintro e w3 ⟨rfl, _, b3, _⟩
        go_wp2
        go_ret
        rw [hd.out]
        exact ⟨rfl, bt b1 ((hbr.trans b2).trans b3)⟩
      · obtain ⟨k, rfl⟩ : ∃ k : Nat, i = k := ⟨i.toNat, by omega⟩
        obtain ⟨hk1, hk2⟩ := hso k rfl
        have hk : k < t.size := (List.getElem?_eq_some_iff.1 hk1).1
        have hpast : M2.decode t.data.toList = t.data.toList.take k ++ M2.decode (t.data.toList.drop k) := by
          conv => lhs; rw [← List.take_append_drop k t.data.toList]
          refine M2.decode_past _ _ (fun hm => ?_)
          obtain ⟨j, hj, hj2⟩ := List.getElem_of_mem hm
          have hj1 : j < k := by rw [List.length_take] at hj; omega
          refine hk2 j hj1 ?_
          rw [← hj2, List.getElem_take, List.getElem?_eq_getElem]
        have hhd : (t.data.toList.drop k).head? = some 38 := by rw [List.head?_drop]; exact hk1
        clear hno hso hge hk1 hk2 hi
        have x0 : (t.extract 0 k).data.toList = t.data.toList.take k := by rw [Lib.extract_data]; simp
        have x1 : (t.extract k t.size).data.toList = t.data.toList.drop k := extract_end t k
        have z0 : (t.extract 0 k).size = k := by rw [ByteArray.size_extract]; omega
        have z1 : (t.extract k t.size).size = t.size - k := by rw [ByteArray.size_extract]; omega
        rw [← x1] at hhd hpast
        rw [← x0] at hpast
        replace hacc := Lib.hid (hacc.out.trans (congrArg (acc ++ ·) hpast))
        replace hhd := Lib.hid hhd
        replace x0 := Lib.hid x0
        have z0 := Lib.hid z0
        have z1 := Lib.hid z1
        have hrest : ∃ (r : Int) (n : Nat), (r = 38 ∧ n = 1 ∧ M2.one (t.extract k t.size).data.toList = none ∨ M2.one (t.extract k t.size).data.toList = some (r, n)) ∧ 0 ≤ r ∧ r ≤ 1114111 ∧ 1 ≤ n ∧ n ≤ t.size - k ∧ M2.decode (t.extract k t.size).data.toList = M1.enc r ++ M2.decode ((t.extract k t.size).data.toList.drop n) := by
          have hlen : (t.extract k t.size).data.toList.length = t.size - k := z1.out
          cases ho : M2.one (t.extract k t.size).data.toList with
          | none =>
            refine ⟨38, 1, Or.inl ⟨rfl, rfl, rfl⟩, by omega, by omega, by omega, by omega, ?_⟩
            have h := hhd.out
            generalize (t.extract k t.size).data.toList = u at *
            cases u with
            | nil => cases h
            | cons c u =>
              simp at h
              subst h
              rw [M2.decode_byte ho, show M1.enc 38 = [38] by decide]
              rfl
          | some p =>
            obtain ⟨r, n⟩ := p
            have hb := M2.one_bd ho
            have hok := hb.2.2.1
            unfold M1.okRune at hok
            exact ⟨r, n, Or.inr rfl, by omega, by omega, by omega, by omega, M2.decode_ref ho⟩
        obtain ⟨r, n, hone, hr0, hr1, hn1, hn2, hdec⟩ := hrest
        have hone := Lib.hid hone
        replace hacc := Lib.hid (hacc.out.trans (congrArg (fun x => acc ++ ((t.extract 0 k).data.toList ++ x)) hdec))
        clear hpast x1 hdec
        rename_i z0' z1' hone'
        clear z0' z1' hone'
        go_wp2_with fail
        refine (bWriteString w1.heap.size w1.heap.size (u8s acc) (t.extract 0 k) _ hI (by rw [u8s_length, z0.out]; omega) hB).mono ?_
        rintro e w2 ⟨rfl, hI2, b2, k2⟩
        have hI3 : Lib.BuilderAtF 92 5 w1.heap.size w1.heap.size (.pointer (some ⟨w1.heap.size, 0, none⟩)) (u8s (acc ++ (t.extract 0 k).data.toList)) w2 := by rw [u8s_append]; exact hI2
        have hN2 := names_keep hNr b2 hblt
        have B2 := hbr.trans b2
        have hz2 := B2.size
        clear hI2 k2 b2
        have hal2 : (acc ++ (t.extract 0 k).data.toList).length ≤ acc.length + k := by
          have e : (t.extract 0 k).data.toList.length = k := z0.out
          rw [List.length_append, e]
          exact Nat.le_refl _
        have htb : (t.extract k t.size).size ≤ 1073741824 := by rw [z1.out]; omega
        have hacc2 : Hid (D = (acc ++ (t.extract 0 k).data.toList ++ M1.enc r) ++ M2.decode ((t.extract k t.size).data.toList.drop n)) := by
          show _ = _
          rw [hacc.out]
          simp
        have hz1 := z1.out
        clear hacc z0 z1 x0
        generalize acc ++ (t.extract 0 k).data.toList = acc2 at *
        go_wp2_with fail
        refine (refsOne' (t.extract k t.size) b w2 hN2 hhd.out htb).mono ?_
        rintro e w3 ⟨rfl, b3⟩
        generalize t.extract k t.size = tb at *
        have hI4 := bldrAt_below hI3 b3
        have hN3 := ownsMap_below hN2 b3
        have B3 := B2.trans (b3.mono hz2)
        have hz3 := B3.size
        have xn : (tb.extract n tb.size).data.toList = tb.data.toList.drop n := extract_end tb n
        have zn : Hid ((tb.extract n tb.size).size = t.size - k - n) := by
          show _ = _
          rw [ByteArray.size_extract]; omega
        rw [← xn] at hacc2
        have hntb : n ≤ tb.size := by omega
        have hel := M2.enc_len_le r
        replace hz1 := Lib.hid hz1
        clear hI3 hN2 B2 hz2 b3 xn
        have fin : ∀ w4, Lib.BuilderAtF 92 5 w1.heap.size w1.heap.size (.pointer (some ⟨w1.heap.size, 0, none⟩)) (u8s acc2 ++ Lib.runeCells r) w4 → Below w1.heap.size w3 w4 →
            ∃ (t' : ByteArray) (acc' : List UInt8), Value.string (tb.extract n tb.size) = .string t' ∧ t'.size ≤ s.size ∧ acc'.length ≤ 4 * (s.size - t'.size) ∧ Lib.IsBuilderF 92 5 w1.heap.size w1.heap.size (u8s acc') w4 ∧ Names w4 b ∧ Below w1.heap.size w1 w4 ∧ Hid (D = acc' ++ M2.decode t'.data.toList) := by
          intro w4 hI5 b4
          refine ⟨_, acc2 ++ M1.enc r, rfl, by rw [zn.out]; omega, by rw [zn.out, List.length_append]; omega, ?_, names_keep hN3 b4 hblt, B3.trans b4, hacc2.out⟩
          rw [u8s_append, show u8s (M1.enc r) = Lib.runeCells r from Lib.byteCells_encodeRune r]
          exact Or.inr hI5
        replace fin := Lib.hid fin
        have hWR := fun (x : Int) (h1 : 0 ≤ x) (h2 : x ≤ 1114111) => bWriteRune w1.heap.size w1.heap.size (u8s acc2) x (by omega) (by omega) w3 (Or.inr hI4) (by rw [u8s_length]; omega) hz3
        replace hWR := Lib.hid hWR
        rcases hone.out with ⟨rfl, rfl, ho⟩ | ho
        · rw [ho, ans_none]
          clear ho hone
          go_wp2_with fail
          refine (hWR.out 38 (by omega) (by omega)).mono ?_
          rintro e w4 ⟨rfl, hI5, b4, k4⟩
          have F := Lib.hid (fin.out w4 hI5 b4)
          go_wp2
          go_roundw
          case rel => exact F.out
          case measure => have hz1' := hz1.out; simp [strSz]; omega
        · rw [ho, ans_some]
          have hn0 : ((n : Int) == 0) = false := by simp; omega
          clear ho hone
          go_wp2_with fail
          refine (hWR.out r hr0 hr1).mono ?_
          rintro e w4 ⟨rfl, hI5, b4, k4⟩
          have F := Lib.hid (fin.out w4 hI5 b4)
          go_wp2
          go_roundw
          case rel => exact F.out
          case measure => have hz1' := hz1.out; simp [strSz]; omega
  · have hge : decide (0 ≤ Lib.indexByte s.data.toList 38) = false := by
      refine decide_eq_false ?_
      rw [M2.indexByte_no _ _ hc]
      omega
    rw [M2.decode_self _ hc]
    clear hc
    go_enter Try.func57, Try.ntmps57
    go_wp2_with fail
    refine (sContains1 s 38 w).mono ?_
    rintro e w0 ⟨rfl, rfl⟩
    rw [hge]
    clear hge
    go_wp2_with fail
    refine (sClone s _ (by omega)).mono ?_
    rintro e w1 ⟨rfl, b1⟩
    go_wp2
    go_ret
    exact ⟨rfl, b1⟩


end Go.Proofs.Ytlknmnldblodbaa

/- Package utf's functions: what each call gives, for any bytes. -/
namespace Go.Proofs.Ytlknmnldblodbaa
open Go.RowKit

theorem info32 : (Try.prog.info? 21).map (fun i => (i.zero, i.size, i.bytes)) = some (some (.int .i32 0), 1, 4) := by kernel_rfl

/-- 'next' on a text, by lists. -/
theorem next_dec {P : Program} (w : World) (k : Nat) (s : ByteArray) (pos : Nat) (hk : w.heap[k]? = some (.stringIter s pos)) (h : pos < s.size) : ∀ ty,
    (Instr.next (.pointer (some ⟨k, 0, none⟩)) true ty).run P w =
      .ok (.tuple #[.bool true, .int .i64 pos, .int .i32 (M1.dec (s.data.toList.drop pos)).1]) (w.iterAt k s (pos + (M1.dec (s.data.toList.drop pos)).2)) := fun ty => by
  rw [Lib.run_next_any_at w k s pos ty hk h, M1.decode_eq]

theorem drop_ne {l : List UInt8} {k : Nat} (h : k < l.length) : l.drop k ≠ [] := by
  intro e
  have := congrArg List.length e
  simp at this
  omega

set_option maxHeartbeats 1000000 in
theorem utfSmall (c : UInt8) (w : World) :
    Calls Try.prog 96 #[.int .u8 (c.toNat : Int)] w fun e w' => e = .returned (.int .u8 ((M1.small c).toNat : Int)) ∧ w' = w := by
  have h := M1.small_nat c
  have hc := c.toNat_lt
  generalize (M1.small c).toNat = m at *
  generalize c.toNat = n at *
  have hc : n < 256 := hc
  by_cases h0 : 65 ≤ n ∧ n ≤ 90
  · rw [if_pos h0] at h
    obtain ⟨h1, h2⟩ := h0
    subst h
    go_enter Try.func96, Try.ntmps96
    go_wp2
    go_ret
    refine ⟨?_, rfl⟩
    show Ending.returned (.int .u8 ((n : Int) - 65 + 97)) = _
    rw [show (n : Int) - 65 + 97 = ((n + 32 : Nat) : Int) by omega]
  · rw [if_neg h0] at h
    subst h
    go_enter Try.func96, Try.ntmps96
    go_wp2
    all_goals go_ret
    all_goals exact ⟨rfl, rfl⟩

/-- Does the text begin with the form of 65533? -/
def spelt3 (s : ByteArray) : Bool := s.data.toList.take 3 == [239, 191, 189]

set_option maxHeartbeats 1000000 in
set_option maxRecDepth 100000 in
theorem utfPrefix (s p : ByteArray) (w : World) (hs : s.size ≤ 9223372036854775807) (hp : p.size ≤ 9223372036854775807) :
    Calls Try.prog 71 #[.string s, .string p] w fun e w' => e = .returned (.bool (M1.prefixB s.data.toList p.data.toList)) ∧ Below w.heap.size w w' := by
  by_cases hlen : s.size < p.size
  · have h := M1.prefixB_short s.data.toList p.data.toList hlen
    generalize M1.prefixB s.data.toList p.data.toList = q at *
    subst h
    go_enter Try.func71, Try.ntmps71
    go_wp2
    go_ret
    exact ⟨rfl, Below.refl _ _⟩
  · have hle : p.size ≤ s.size := by omega
    clear hlen
    go_enter Try.func71, Try.ntmps71
    go_wp2
    go_loopw [13] (fun i wr => ∃ k : Nat, k ≤ p.size ∧ i = .int .i64 k ∧ Below w.heap.size w wr ∧ Hid (M1.fold (s.data.toList.take k) = p.data.toList.take k)) (fun i _ => p.size - (intOf i).toNat)
    case atStart => exact ⟨0, by omega, rfl, Below.refl _ _, by simp [Hid, M1.fold]⟩
    case round =>
      obtain ⟨k, hk, rfl, hbw, hF⟩ := hrel
      by_cases hlt : k < p.size
      · have hls : k < s.size := by omega
        by_cases heq : M1.small s[k] = p[k]
        · have hb : (((M1.small s[k]).toNat : Int) != (p[k].toNat : Int)) = false := by rw [heq]; simp
          go_wp2
          go_quiet ((go_at_call 96; exact Calls.quiet_of_same (utfSmall _ _)))
          go_wp2
          go_roundw
          case rel =>
            refine ⟨k + 1, by omega, by go_num, below_drewN hbw _, ?_⟩
            show M1.fold _ = _
            have hF := hF.out
            have e1 : s.data.toList.take (k + 1) = s.data.toList.take k ++ [s[k]] := List.take_succ_eq_append_getElem (l := s.data.toList) hls
            have e2 : p.data.toList.take (k + 1) = p.data.toList.take k ++ [p[k]] := List.take_succ_eq_append_getElem (l := p.data.toList) hlt
            rw [e1, e2, ← hF, ← heq]
            simp [M1.fold]
          case measure => simp [intOf]; omega
        · have h := M1.prefixB_diff s.data.toList p.data.toList k hlt hls heq
          have hb : (((M1.small s[k]).toNat : Int) != (p[k].toNat : Int)) = true := by
            rw [bne_iff_ne]; intro h; exact heq (UInt8.toNat_inj.1 (by omega))
          have h := Lib.hid h
          clear heq
          go_wp2
          go_quiet ((go_at_call 96; exact Calls.quiet_of_same (utfSmall _ _)))
          go_wp2
          go_ret
          exact ⟨by rw [h.out]; rfl, below_drewN hbw _⟩
      · obtain rfl : k = p.size := by omega
        have hF := hF.out
        rw [List.take_of_length_le (l := p.data.toList) (show p.data.toList.length ≤ p.size from Nat.le_refl _)] at hF
        have h := M1.prefixB_yes s.data.toList p.data.toList hle hF
        have h := Lib.hid h
        clear hF
        go_wp2
        go_ret
        exact ⟨by rw [h.out]; rfl, hbw⟩

set_option maxHeartbeats 1000000 in
set_option maxRecDepth 100000 in
theorem utfFold (s : ByteArray) (w : World) (hs : s.size ≤ 140737488355328) :
    Calls Try.prog 91 #[.string s] w fun e w' => e = .returned (.string ⟨(M1.fold s.data.toList).toArray⟩) ∧ Below w.heap.size w w' := by
  have hcv := Lib.run_convert_string_bytes (P := Try.prog) w 9 22 5 s Try.underlying9 Try.underlying22 Try.underlying5
  have hcap := grownCap_ge w s.size 0 5
  have hcap2 := grownCap_le_maxLen w s.size 0 5 (by unfold maxLen; omega)
  unfold maxLen at hcap2
  have hM := MutRow.bytes w 5 s
  have hB := below_bytesWorld w 5 s
  have hz := Lib.bytesWorld_size w 5 s
  generalize grownCap w s.size 0 5 = cap at *
  generalize Lib.bytesWorld w 5 s = w0 at *
  have hz := Lib.hid hz
  go_enter Try.func91, Try.ntmps91
  go_wp2
  go_loopw [10] (fun i wr => ∃ k : Nat, k ≤ s.size ∧ i = .int .i64 k ∧ Below w.heap.size w wr ∧ MutRow wr w.heap.size (u8s (M1.foldTo s.data.toList k))) (fun i _ => s.size - (intOf i).toNat)
  case atStart => exact ⟨0, by omega, rfl, hB, by rw [M1.foldTo_zero]; exact hM⟩
  case round =>
    obtain ⟨k, hk, rfl, hbw, hR⟩ := hrel
    have hlen : (u8s (M1.foldTo s.data.toList k)).length ≤ s.size ∧ s.size ≤ (u8s (M1.foldTo s.data.toList k)).length := by
      have : s.data.toList.length = s.size := rfl
      rw [u8s_length, M1.foldTo_length]
      omega
    by_cases hlt : k < s.size
    · have hls : k < s.data.toList.length := hlt
      obtain ⟨hc, hf⟩ := hR.at (u8s_get _ _ _ (M1.foldTo_get _ k hls))
      have hset := hR.set (k := k) (by omega) (.int .u8 ((M1.small s.data.toList[k]).toNat : Int))
      rw [u8s_set, M1.foldTo_set _ k hls] at hset
      clear hR hlen
      generalize s.data.toList[k] = c at *
      go_wp2_with (go_at_call 96; refine (utfSmall _ _).mono ?_; rintro e w1 ⟨rfl, rfl⟩)
      go_roundw
      case rel => exact ⟨k + 1, by omega, by go_num, hbw.setCell (Nat.le_refl _) _, hset⟩
      case measure => simp [intOf]; omega
    · obtain rfl : k = s.size := by omega
      rw [M1.foldTo_all _ _ (show s.data.toList.length ≤ s.size from Nat.le_refl _)] at hR
      have hfl : (u8s (M1.fold s.data.toList)).length = s.size := by rw [u8s_length]; simp [M1.fold]
      have hsl := hR.sl (cap := cap) (by omega) hcap2
      rw [hfl] at hsl
      have hcv2 := hsl.toString 22 9 5 Try.underlying22 Try.underlying5 Try.underlying9
      clear hfl
      go_wp2
      go_ret
      exact ⟨rfl, hbw⟩


end Go.Proofs.Ytlknmnldblodbaa

/- Contracts of the library's shelf, laid in plain words (lay-plain.mjs), this program's numbers by name. -/
namespace Go.Proofs.Ytlknmnldblodbaa
open Go.Shelf
end Go.Proofs.Ytlknmnldblodbaa

/- Package dom's small functions: names, kinds, attributes. -/
namespace Go.Proofs.Ytlknmnldblodbaa
open Go.RowKit

set_option maxHeartbeats 1000000 in
theorem ref03Void (s : ByteArray) (w : World) : Calls Try.prog 24 #[.string s] w fun e w' => e = .returned (.bool (M3.voidB s.data.toList)) ∧ w' = w := by
  rw [← Lib.toList_data]
  go_enter Try.func24, Try.ntmps24
  go_wp2
  all_goals (go_ret; refine ⟨?_, rfl⟩; unfold M3.voidB; simp_all)

set_option maxHeartbeats 1000000 in
theorem domRaw (s : ByteArray) (w : World) : Calls Try.prog 31 #[.string s] w fun e w' => e = .returned (.bool (M3.rawB s.data.toList)) ∧ w' = w := by
  rw [← Lib.toList_data]
  go_enter Try.func31, Try.ntmps31
  go_wp2
  all_goals (go_ret; refine ⟨?_, rfl⟩; unfold M3.rawB; simp_all)

set_option maxHeartbeats 1000000 in
theorem ref03Raw (s : ByteArray) (w : World) : Calls Try.prog 23 #[.string s] w fun e w' => e = .returned (.bool (M3.rawB s.data.toList)) ∧ w' = w := by
  rw [← Lib.toList_data]
  go_enter Try.func23, Try.ntmps23
  go_wp2
  all_goals (go_ret; refine ⟨?_, rfl⟩; unfold M3.rawB; simp_all)

set_option maxHeartbeats 1000000 in
theorem ref03Small (c : UInt8) (w : World) : Calls Try.prog 45 #[.int .u8 (c.toNat : Int)] w fun e w' => e = .returned (.bool (M3.smallB c)) ∧ w' = w := by
  by_cases h1 : 97 ≤ c.toNat
  · go_enter Try.func45, Try.ntmps45
    go_wp2
    go_ret
    exact ⟨by simp [M3.smallB, h1]; omega, rfl⟩
  · go_enter Try.func45, Try.ntmps45
    go_wp2
    all_goals (go_ret; exact ⟨by simp [M3.smallB, h1], rfl⟩)


end Go.Proofs.Ytlknmnldblodbaa

/- Characters that stand in a row of plain ones. -/
namespace Go.Proofs.Ytlknmnldblodbaa
namespace M3
abbrev C7 : List UInt8 := [9, 10, 12, 32, 47, 62, 61]
theorem badB_eq (c : UInt8) : badB c = C7.contains c := by
  have e : ∀ (n : Nat) (h : n < 256), (c.toNat == n) = (c == n.toUInt8) := by
    intro n h
    rw [Bool.eq_iff_iff, beq_iff_eq, beq_iff_eq]
    constructor
    · intro h1; rw [← h1]; simp
    · rintro rfl; exact M1.toNat_u8 n h
  unfold badB
  rw [e 9 (by decide), e 10 (by decide), e 12 (by decide), e 32 (by decide), e 47 (by decide), e 62 (by decide), e 61 (by decide)]
  simp only [C7, List.contains_cons, List.contains_nil, Bool.or_false, Bool.or_assoc]
  rfl
theorem badB_high (c : UInt8) (h : 128 ≤ c.toNat) : badB c = false := by
  unfold badB
  simp
  omega
theorem high_skip (c : UInt8) (t : List UInt8) (h : 128 ≤ c.toNat) : ∀ x ∈ (c :: t).take (M1.dec (c :: t)).2, 128 ≤ x.toNat := by
  have hd := M2.dec_hi c t h
  rcases M1.dec_cases (c :: t) (by simp) with ⟨h1, h2, h3⟩ | ⟨h1, _⟩
  · intro x hx
    rw [h2, h3] at hx
    rw [List.take_left'] at hx
    · exact M2.enc_high _ h1 (by omega) x hx
    · rw [← h3, ← h2]
  · rw [h1]
    intro x hx
    simp at hx
    subst hx; exact h
theorem any_skip (c : UInt8) (t : List UInt8) (h : 128 ≤ c.toNat) : (c :: t).any badB = ((c :: t).drop (M1.dec (c :: t)).2).any badB := by
  conv => lhs; rw [← List.take_append_drop (M1.dec (c :: t)).2 (c :: t), List.any_append]
  have : ((c :: t).take (M1.dec (c :: t)).2).any badB = false := by
    rw [List.any_eq_false]
    intro x hx
    rw [badB_high x (high_skip c t h x hx)]
    simp
  rw [this, Bool.false_or]
theorem indexAny_bad (l : List UInt8) : decide (0 ≤ Lib.indexAny l C7) = l.any badB := by
  induction l with
  | nil => rfl
  | cons c r ih =>
    have hge := Lib.indexAny_ge C7 r
    rw [Lib.indexAny, List.any_cons, badB_eq, ← ih]
    cases hc : C7.contains c
    · simp only [Bool.false_or, Bool.false_eq_true, if_false, beq_iff_eq]
      split
      · rename_i h; rw [h]
      · congr 1; exact propext (by omega)
    · simp
theorem small_cap (c : UInt8) : (M1.small c == c) = !capB c := by
  have h := M1.small_nat c
  by_cases hc : 65 ≤ c.toNat ∧ c.toNat ≤ 90
  · rw [if_pos hc] at h
    have h1 : capB c = true := decide_eq_true hc
    rw [h1]
    simp only [Bool.not_true, beq_eq_false_iff_ne, ne_eq]
    intro e; rw [e] at h; omega
  · have h1 : capB c = false := decide_eq_false hc
    rw [h1]
    simp only [Bool.not_false, beq_iff_eq]
    unfold M1.small
    rw [if_neg hc]
theorem fold_same (l : List UInt8) : (M1.fold l == l) = !(l.any capB) := by
  induction l with
  | nil => rfl
  | cons c r ih =>
    show (M1.small c :: M1.fold r == c :: r) = _
    rw [List.cons_beq_cons, ih, small_cap, List.any_cons, Bool.not_or]
end M3
end Go.Proofs.Ytlknmnldblodbaa

/- Attributes' names: strings.ContainsAny at the signs that may not be, for every text; and the reference's own way. -/
namespace Go.Proofs.Ytlknmnldblodbaa
open Go.RowKit

abbrev c7 : ByteArray := ⟨#[9, 10, 12, 32, 47, 62, 61]⟩

/-- A character beyond the plain ones is two, three or four bytes, each of them beyond them. -/
theorem encode_high (r : Int) (h0 : 128 ≤ r) (h1 : r ≤ 1114111) (hs : r < 55296 ∨ 57343 < r) :
    (∃ a b : UInt8, Utf8.encode r = ⟨#[a, b]⟩ ∧ 128 ≤ b.toNat) ∨ (∃ a b c : UInt8, Utf8.encode r = ⟨#[a, b, c]⟩ ∧ 128 ≤ c.toNat) ∨ (∃ a b c d : UInt8, Utf8.encode r = ⟨#[a, b, c, d]⟩ ∧ 128 ≤ d.toNat) := by
  have hv : Utf8.valid r = true := by rw [M1.valid_iff]; exact decide_eq_true (by unfold M1.okRune; omega)
  unfold Utf8.encode
  simp only [hv, if_true]
  obtain ⟨n, rfl⟩ := Int.eq_ofNat_of_zero_le (show 0 ≤ r by omega)
  simp only [Int.toNat_natCast]
  rw [if_neg (by omega)]
  split
  · exact Or.inl ⟨_, _, rfl, by rw [M1.toNat_u8 _ (by omega)]; omega⟩
  split
  · exact Or.inr (Or.inl ⟨_, _, _, rfl, by rw [M1.toNat_u8 _ (by omega)]; omega⟩)
  · exact Or.inr (Or.inr ⟨_, _, _, _, rfl, by rw [M1.toNat_u8 _ (by omega)]; omega⟩)

theorem sIndexByteHigh (s : ByteArray) (b : UInt8) (w : World) (hb : 128 ≤ b.toNat) (hs : s.data.toList.all (fun x => decide (x.toNat < 128)) = true) :
    Calls Try.prog 44 #[.string s, .int .u8 (b.toNat : Int)] w fun e w' => e = .returned (.int .i64 (-1)) ∧ w' = w :=
  (sIndexByte s b.toNat w).mono fun e w' ⟨h1, h2⟩ => ⟨by
    rw [h1]
    simp only [Int.toNat_natCast, Nat.toUInt8_eq, UInt8.ofNat_toNat]
    rw [M2.indexByte_no]
    intro hm
    have := of_decide_eq_true (List.all_eq_true.1 hs _ hm)
    omega, h2⟩


end Go.Proofs.Ytlknmnldblodbaa

/- strings.ContainsAny at the seven signs; attributes' names; the reference's names. -/
namespace Go.Proofs.Ytlknmnldblodbaa
open Go.RowKit

def AnyPost (l : List UInt8) (w : World) (e : Ending) (w' : World) : Prop := ∃ z : Int, e = .returned (.int .i64 z) ∧ decide (0 ≤ z) = l.any M3.badB ∧ Below w.heap.size w w'

def restB (l : List UInt8) : Bool := !(l.any M3.capB) && !(l.any M3.badB)
theorem restB_drop (s : ByteArray) (i : Nat) (h : i < s.size) : restB (s.data.toList.drop i) = (!(M3.capB s[i]) && !(M3.badB s[i]) && restB (s.data.toList.drop (i + 1))) := by
  have hsz : s.size = s.data.toList.length := rfl
  unfold restB
  rw [List.drop_eq_getElem_cons (show i < s.data.toList.length by omega), List.any_cons, List.any_cons]
  show (!(M3.capB s[i] || _) && !(M3.badB s[i] || _)) = _
  cases M3.capB s[i] <;> cases M3.badB s[i] <;> simp

set_option maxHeartbeats 4000000 in
set_option maxRecDepth 100000 in
theorem ref03Attributed (s : ByteArray) (w : World) (hs : s.size ≤ 268435456) :
    Calls Try.prog 26 #[.string s] w fun e w' => e = .returned (.bool (M3.attributedB s.data.toList)) ∧ Below w.heap.size w w' := by
  have hsz : Hid (s.size = s.data.toList.length) := rfl
  have hr : Hid (M3.attributedB s.data.toList = (!s.data.toList.isEmpty && (M1.isB s.data.toList && restB s.data.toList))) := by
    show _ = _
    unfold M3.attributedB restB
    rw [Bool.and_assoc]
  have hI := ref01Is s w hs
  generalize M1.isB s.data.toList = b1 at *
  go_enter Try.func26, Try.ntmps26
  go_wp2_with fail
  refine hI.mono ?_
  rintro e w1 ⟨rfl, hb1⟩
  go_wp2
  go_loopw [4] (fun u4 wr => ∃ i : Nat, i ≤ s.size ∧ u4 = .int .i64 (i : Int) ∧ w1 = wr ∧ Hid (restB s.data.toList = restB (s.data.toList.drop i))) (fun u4 _ => s.size - (intOf u4).toNat)
  case atStart => exact ⟨0, by omega, rfl, rfl, rfl⟩
  case round =>
    obtain ⟨i, hi, rfl, rfl, hB⟩ := hrel
    by_cases hlt : i < s.size
    · have hst := Lib.hid (hB.out.trans (restB_drop s i hlt))
      clear hB
      have hcap : Hid (M3.capB s[i] = decide (65 ≤ s[i].toNat ∧ s[i].toNat ≤ 90)) := rfl
      have hbad : Hid (M3.badB s[i] = (s[i].toNat == 9 || s[i].toNat == 10 || s[i].toNat == 12 || s[i].toNat == 32 || s[i].toNat == 47 || s[i].toNat == 62 || s[i].toNat == 61)) := rfl
      have hc := s[i].toNat_lt
      generalize hn : s[i].toNat = n at *
      generalize M3.capB s[i] = p at *
      generalize M3.badB s[i] = q at *
      have hno : (p || q) = true → Hid (M3.attributedB s.data.toList = false) := by
        intro h
        show _ = _
        rw [hr.out, hst.out]
        cases p <;> cases q <;> simp_all
      by_cases h1 : 65 ≤ n ∧ n ≤ 90
      · replace hno := hno (by rw [hcap.out, decide_eq_true h1]; rfl)
        clear hcap hbad hst
        obtain ⟨h1, h2⟩ := h1
        go_wp2
        go_ret
        exact ⟨by rw [hno.out]; rfl, hb1⟩
      by_cases h2 : n = 9 ∨ n = 10 ∨ n = 12 ∨ n = 32 ∨ n = 47 ∨ n = 62 ∨ n = 61
      · replace hno := hno (by rw [hbad.out]; simp; omega)
        clear hcap hbad hst h1
        rcases h2 with rfl | rfl | rfl | rfl | rfl | rfl | rfl <;> (go_wp2; go_ret; exact ⟨by rw [hno.out]; rfl, hb1⟩)
      · have hp : p = false := by rw [hcap.out]; exact decide_eq_false h1
        have hq : q = false := by rw [hbad.out]; simp; omega
        clear hno hcap hbad
        subst hp
        subst hq
        have e1 : ((n : Int) == 9) = false := by simp; omega
        have e2 : ((n : Int) == 10) = false := by simp; omega
        have e3 : ((n : Int) == 12) = false := by simp; omega
        have e4 : ((n : Int) == 32) = false := by simp; omega
        have e5 : ((n : Int) == 47) = false := by simp; omega
        have e6 : ((n : Int) == 62) = false := by simp; omega
        have e7 : ((n : Int) == 61) = false := by simp; omega
        clear h2
        by_cases h3 : 65 ≤ n
        · have hd : decide ((n : Int) ≤ 90) = false := decide_eq_false (by omega)
          go_wp2
          go_roundw
          case rel => exact ⟨i + 1, by omega, by go_num, by trivial, by rw [hst.out]; rfl⟩
          case measure => simp [intOf]; omega
        · go_wp2
          go_roundw
          case rel => exact ⟨i + 1, by omega, by go_num, by trivial, by rw [hst.out]; rfl⟩
          case measure => simp [intOf]; omega
    · have h0 : restB (s.data.toList.drop i) = true := by rw [List.drop_of_length_le (by have := hsz.out; omega)]; rfl
      replace hr := Lib.hid ((hr.out).trans (by rw [hB.out, h0]))
      clear h0 hB
      cases b1
      · go_wp2
        go_ret
        exact ⟨by rw [hr.out]; simp, hb1⟩
      · by_cases h0 : 0 < s.size
        · go_wp2
          go_ret
          refine ⟨?_, hb1⟩
          rw [hr.out]
          have : s.data.toList.isEmpty = false := by rw [← Bool.not_eq_true, List.isEmpty_iff]; intro h; have := hsz.out; rw [h, List.length_nil] at this; omega
          rw [this]; simp
        · have h00 : s.size = 0 := by omega
          have : s.data.toList.isEmpty = true := by rw [List.isEmpty_iff]; exact List.eq_nil_of_length_eq_zero (by rw [← hsz.out]; exact h00)
          rw [this] at hr
          clear this h00
          go_wp2
          go_ret
          exact ⟨by rw [hr.out]; rfl, hb1⟩

set_option maxHeartbeats 4000000 in
set_option maxRecDepth 100000 in
theorem ref03Named (s : ByteArray) (w : World) (hs : s.size ≤ 9223372036854775807) :
    Calls Try.prog 19 #[.string s] w fun e w' => e = .returned (.bool (M3.namedB s.data.toList)) ∧ w = w' := by
  have hsz : Hid (s.size = s.data.toList.length) := rfl
  by_cases h0 : s.size = 0
  · have : s.data.toList = [] := List.eq_nil_of_length_eq_zero (by rw [← hsz.out]; exact h0)
    have hr : Hid (M3.namedB s.data.toList = false) := by show _ = _; rw [this]; rfl
    clear this
    go_enter Try.func19, Try.ntmps19
    go_wp2
    go_ret
    exact ⟨by rw [hr.out]; rfl, rfl⟩
  have hz : ((s.size : Int) == 0) = false := by simpa using h0
  have hpos : 0 < s.size := by omega
  have hr : Hid (M3.namedB s.data.toList = (M3.smallB s[0] && (s.data.toList.drop 0).all M3.nameB)) := by
    show _ = _
    have hl := hsz.out
    obtain ⟨c, r, hd⟩ := List.exists_cons_of_ne_nil (show s.data.toList ≠ [] by intro h; rw [h, List.length_nil] at hl; omega)
    have h1 : s[0] = c := by
      show s.data.toList[0]'(by omega) = c
      simp [hd]
    rw [h1, List.drop_zero, hd]
    show (M3.smallB c && r.all M3.nameB) = (M3.smallB c && (M3.nameB c && r.all M3.nameB))
    unfold M3.nameB
    cases M3.smallB c <;> simp
  have hs0 := Lib.hid (fun W => ref03Small s[0] W)
  generalize M3.smallB s[0] = f at *
  go_enter Try.func19, Try.ntmps19
  go_wp2_with fail
  refine (hs0.out _).mono ?_
  rintro e w1 ⟨rfl, hw⟩
  rw [hw]
  clear hw w1
  go_wp2
  go_loopw [4] (fun u4 wr => ∃ i : Nat, i ≤ s.size ∧ u4 = .int .i64 (i : Int) ∧ w = wr ∧ Hid (M3.namedB s.data.toList = (f && (s.data.toList.drop i).all M3.nameB))) (fun u4 _ => s.size - (intOf u4).toNat)
  case atStart => exact ⟨0, by omega, rfl, rfl, hr.out⟩
  case round =>
    obtain ⟨i, hi, rfl, rfl, hB⟩ := hrel
    by_cases hlt : i < s.size
    · have hst : (s.data.toList.drop i).all M3.nameB = (M3.nameB s[i] && (s.data.toList.drop (i + 1)).all M3.nameB) := by
        rw [List.drop_eq_getElem_cons (show i < s.data.toList.length by have := hsz.out; omega), List.all_cons]; rfl
      replace hst := Lib.hid (hB.out.trans (by rw [hst]))
      have hsi := Lib.hid (fun W => ref03Small s[i] W)
      have hnm : Hid (M3.nameB s[i] = (M3.smallB s[i] || decide (s[i].toNat = 45 ∨ (48 ≤ s[i].toNat ∧ s[i].toNat ≤ 57)))) := rfl
      clear hB hr
      generalize M3.smallB s[i] = p at *
      generalize M3.nameB s[i] = q at *
      have hc := s[i].toNat_lt
      cases p
      · by_cases h1 : s[i].toNat = 45 ∨ (48 ≤ s[i].toNat ∧ s[i].toNat ≤ 57)
        · have hq : q = true := by rw [hnm.out, decide_eq_true h1]; rfl
          subst hq
          clear hnm
          rcases h1 with h1 | ⟨h1, h2⟩
          · have e1 : ((s[i].toNat : Int) != 45) = false := by rw [h1]; rfl
            have e2 : decide ((s[i].toNat : Int) < 48) = true := decide_eq_true (by omega)
            clear h1
            go_wp2_with fail
            refine (hsi.out _).mono ?_
            rintro e w1 ⟨rfl, hw⟩
            rw [hw]
            clear hw w1
            go_wp2
            go_roundw
            case rel => exact ⟨i + 1, by omega, by go_num, by trivial, by show _ = _; rw [hst.out]; simp⟩
            case measure => simp [intOf]; omega
          · go_wp2_with fail
            refine (hsi.out _).mono ?_
            rintro e w1 ⟨rfl, hw⟩
            rw [hw]
            clear hw w1
            go_wp2
            go_roundw
            case rel => exact ⟨i + 1, by omega, by go_num, by trivial, by show _ = _; rw [hst.out]; simp⟩
            case measure => simp [intOf]; omega
        · have hq : q = false := by rw [hnm.out, decide_eq_false h1]; rfl
          subst hq
          clear hnm
          have e1 : ((s[i].toNat : Int) != 45) = true := by simp; omega
          have hno : Hid (M3.namedB s.data.toList = false) := by show _ = _; rw [hst.out]; simp
          clear hst
          by_cases h2 : s[i].toNat < 48
          · go_wp2_with fail
            refine (hsi.out _).mono ?_
            rintro e w1 ⟨rfl, hw⟩
            rw [hw]
            clear hw w1
            go_wp2
            go_ret
            exact ⟨by rw [hno.out]; rfl, by trivial⟩
          · have e2 : decide ((s[i].toNat : Int) < 48) = false := decide_eq_false (by omega)
            have e3 : decide (57 < (s[i].toNat : Int)) = true := decide_eq_true (by omega)
            clear h1
            go_wp2_with fail
            refine (hsi.out _).mono ?_
            rintro e w1 ⟨rfl, hw⟩
            rw [hw]
            clear hw w1
            go_wp2
            go_ret
            exact ⟨by rw [hno.out]; rfl, by trivial⟩
      · have hq : q = true := by rw [hnm.out]; rfl
        subst hq
        clear hnm
        go_wp2_with fail
        refine (hsi.out _).mono ?_
        rintro e w1 ⟨rfl, hw⟩
        rw [hw]
        clear hw w1
        go_wp2
        go_roundw
        case rel => exact ⟨i + 1, by omega, by go_num, by trivial, by show _ = _; rw [hst.out]; simp⟩
        case measure => simp [intOf]; omega
    · have h0 : (s.data.toList.drop i).all M3.nameB = true := by rw [List.drop_of_length_le (by have := hsz.out; omega)]; rfl
      have hB2 := Lib.hid (hB.out.trans (by rw [h0, Bool.and_true]))
      clear h0 hB hr
      go_wp2
      go_ret
      exact ⟨by rw [hB2.out]; rfl, by trivial⟩
end Go.Proofs.Ytlknmnldblodbaa

/- A node's own error by its fields; more plain facts on nodes. -/
namespace Go.Proofs.Ytlknmnldblodbaa
namespace M3
/-! ### The fields, one by one -/
def plainF (n : ByteArray) (ats : List Att) (ks : List Nd) : Bool := nilB n && ats.isEmpty && ks.isEmpty
def kindlyF (k : Int) (n : ByteArray) (ats : List Att) (t : ByteArray) (ks : List Nd) : Bool := if k = 1 then nilB t else if k = 2 ∨ k = 3 then plainF n ats ks else false
def elemF (n : ByteArray) (ats : List Att) : Int := if namedB n.data.toList then (if namesE [] ats = 0 then valuesE ats else namesE [] ats) else 4
def oneF (k : Int) (n : ByteArray) (ats : List Att) (t : ByteArray) (ks : List Nd) (p : Bool) : Int :=
  if kindlyF k n ats t ks then (if k = 1 then elemF n ats else if M1.isB t.data.toList && !(decide (k = 2) && (nilB t || p)) then 0 else 2) else 7
theorem oneE_mk (k : Int) (n : ByteArray) (ats : List Att) (t : ByteArray) (ks : List Nd) (p : Bool) : oneE (.mk k n ats t ks) p = oneF k n ats t ks p := by
  unfold oneE oneF kindlyF
  show (if k = 1 then elemE _ else if k = 2 then (if plainF n ats ks then (if M1.isB t.data.toList && !(nilB t || p) then 0 else 2) else 7) else if k = 3 then (if plainF n ats ks then (if M1.isB t.data.toList then 0 else 2) else 7) else 7) = _
  by_cases h1 : k = 1
  · rw [if_pos h1, if_pos h1, if_pos h1]
    rfl
  by_cases h2 : k = 2
  · rw [if_neg h1, if_pos h2, if_neg h1, if_pos (Or.inl h2), if_neg h1, decide_eq_true h2, Bool.true_and]
  by_cases h3 : k = 3
  · rw [if_neg h1, if_neg h2, if_pos h3, if_neg h1, if_pos (Or.inr h3), if_neg h1, decide_eq_false h2, Bool.false_and, Bool.not_false, Bool.and_true]
  · have hno : ¬ (k = 2 ∨ k = 3) := fun h => h.elim h2 h3
    rw [if_neg h1, if_neg h2, if_neg h3, if_neg h1, if_neg hno]
    rfl
end M3
end Go.Proofs.Ytlknmnldblodbaa

/- Package dom: an attribute's value, attributes' names, an element's own error, a node's own error. -/
namespace Go.Proofs.Ytlknmnldblodbaa
open Go.RowKit Go.Maps Go.WideShapes

theorem Row.below {S : Nat → Prop} {w w' : World} {B k n : Nat} {v : Value} {xs : List Value} (h : Row S w k v n xs) (hS : ∀ b, S b → b < B) (hb : Below B w w') : Row S w' k v n xs := h.keep fun b h => hb.block b (hS b h)
theorem RepN.below {S : Nat → Prop} {w w' : World} {B : Nat} {v : Value} {l : List Nd} (h : RepN S w v l) (hS : ∀ b, S b → b < B) (hb : Below B w w') : RepN S w' v l := h.keep fun b h => hb.block b (hS b h)
theorem RepV.below {S : Nat → Prop} {w w' : World} {B : Nat} {x : Nd} {va vk : Value} (h : RepV S w x va vk) (hS : ∀ b, S b → b < B) (hb : Below B w w') : RepV S w' x va vk := h.keep fun b h => hb.block b (hS b h)
theorem run_makeMap_hint {P : Program} (t k e : TypeId) (kd : IntKind) (n : Int) (ht : P.underlying t = some (.map k e)) (w : World) :
    (Instr.makeMap t (some (.int kd n))).run P w = .ok (.map (some w.heap.size)) (w.alloc (.map #[] 0)) := by
  simp [Instr.makeMap, run_underlying ht]; rfl

def valAns (o : Option ByteArray) : Value := .tuple #[.string (o.getD ⟨#[]⟩), .bool o.isSome]

theorem zeroU (w : World) : (zeroValue 74).run Try.prog w = .ok (.agg #[]) w := by kernel_rfl
def keysD (l : List ByteArray) : DataW Unit := Maps.setOf (.agg []) (l.map fun s => Lit.string s.data.toList)
theorem keysD_has (l : List ByteArray) (s : ByteArray) : Maps.has (keysD l) (.string s.data.toList) = l.any (M3.eqB s) := by
  unfold keysD
  rw [Maps.has_setOf _ _ _ (by intro x hx; obtain ⟨y, _, rfl⟩ := List.mem_map.1 hx; trivial), List.any_map]
  congr 1
  funext y
  simp only [Function.comp]
  rw [Bool.eq_iff_iff, M3.eqB_iff]
  constructor
  · intro h
    have := WideAt.sameKey_eq h
    simp only [Lit.string.injEq] at this
    cases s; cases y
    congr 1
    exact (Array.ext' this).symm
  · rintro rfl; exact WideAt.sameKey_self (by trivial)
theorem keysD_snoc (l : List ByteArray) (s : ByteArray) : (keysD l).put (.string s.data.toList) (.agg []) = keysD (l ++ [s]) := by
  unfold keysD
  rw [List.map_append]
  exact (Maps.setOf_snoc _ _ _).symm
abbrev Seen (w : World) (b n : Nat) (l : List ByteArray) : Prop := w.ownsMap Try.prog 9 (unitElem (H := Unit)) b n (keysD l)

/-! ### A node's own error -/
def Fit1 (x : Nd) : Prop := x.name.size ≤ 268435456 ∧ x.text.size ≤ 268435456 ∧ (∀ a ∈ x.attrs, a.name.size ≤ 268435456 ∧ a.value.size ≤ 268435456) ∧ 1 + x.attrs.length + M3.weight x.kids ≤ 1000000


end Go.Proofs.Ytlknmnldblodbaa

/- Package dom and the reference: an element's error, a node's error. -/
namespace Go.Proofs.Ytlknmnldblodbaa
open Go.RowKit Go.Maps Go.WideShapes

theorem Fit1.attr {x : Nd} (h : Fit1 x) : ∀ a ∈ x.attrs, a.name.size ≤ 268435456 := fun a ha => (h.2.2.1 a ha).1


end Go.Proofs.Ytlknmnldblodbaa

/- Package dom: all nodes told one by one: 'tell' hands its yield down; 'each' is what a loop ranges over. -/
namespace Go.Proofs.Ytlknmnldblodbaa
open Go.RowKit Go.Shelf

attribute [local go_sem] Oper.semAt_some

/-- What a round is handed: a node as it lies in memory, and the Kind of the one ahead of it. -/
structure It (S : Nat → Prop) (w0 : World) where
  x : Nd
  ah : Int
  va : Value
  vk : Value
  rep : RepV S w0 x va vk
  fit : Fit1 x
def It.args {S : Nat → Prop} {w0 : World} (t : It S w0) : Array Value := #[t.x.val t.va t.vk, .int .i64 t.ah]
abbrev It.pair {S : Nat → Prop} {w0 : World} (t : It S w0) : Nd × Int := (t.x, t.ah)

/-- T is the row of all nodes of l, whose cells are xs. -/
def Tells (S : Nat → Prop) (w0 : World) : Int → List Value → List Nd → List (It S w0) → Prop
  | _, xs, [], T => xs = [] ∧ T = []
  | a, xs, .mk k n ats t ks :: r, T => ∃ (i : It S w0) (zs ys : List Value) (T1 T2 : List (It S w0)), i.x = .mk k n ats t ks ∧ i.ah = a ∧ xs = i.x.cells i.va i.vk ++ ys ∧ Row S w0 5 i.vk ks.length zs ∧ T = i :: (T1 ++ T2) ∧ Tells S w0 0 zs ks T1 ∧ Tells S w0 k ys r T2
termination_by _ _ l _ => SizeOf.sizeOf l
theorem Tells.cons_iff {S : Nat → Prop} {w0 : World} {a : Int} {xs : List Value} {x : Nd} {r : List Nd} {T : List (It S w0)} :
    Tells S w0 a xs (x :: r) T ↔ ∃ (i : It S w0) (zs ys : List Value) (T1 T2 : List (It S w0)), i.x = x ∧ i.ah = a ∧ xs = i.x.cells i.va i.vk ++ ys ∧ Row S w0 5 i.vk x.kids.length zs ∧ T = i :: (T1 ++ T2) ∧ Tells S w0 0 zs x.kids T1 ∧ Tells S w0 x.kind ys r T2 := by
  cases x; rw [Tells]; rfl

/-- All nodes may be handed on. -/
def FitN : List Nd → Prop
  | [] => True
  | .mk k n a t ks :: r => Fit1 (.mk k n a t ks) ∧ FitN ks ∧ FitN r
termination_by l => SizeOf.sizeOf l
theorem fitN_nil : FitN [] := by rw [FitN]; trivial
theorem fitN_cons {x : Nd} {r : List Nd} : FitN (x :: r) ↔ Fit1 x ∧ FitN x.kids ∧ FitN r := by cases x; rw [FitN]; rfl

theorem tells_of {S : Nat → Prop} {w0 : World} (l : List Nd) : ∀ (a : Int) (xs : List Value), RepC S w0 xs l → FitN l → ∃ T, Tells S w0 a xs l T ∧ T.map It.pair = M3.seqN a l := by
  induction l using Nd.ind with
  | h0 => intro a xs h _; rw [RepC] at h; exact ⟨[], by rw [Tells]; exact ⟨h, rfl⟩, by rw [M3.seqN_nil]; rfl⟩
  | h1 k n ats t ks r ih1 ih2 =>
    intro a xs h hf
    obtain ⟨va, vk, ys, h1, h2, ⟨zs, h3, h4⟩, h5⟩ := RepC.cons_iff.1 h
    obtain ⟨f1, f2, f3⟩ := fitN_cons.1 hf
    obtain ⟨T1, t1, e1⟩ := ih1 0 zs h4 f2
    obtain ⟨T2, t2, e2⟩ := ih2 k ys h5 f3
    refine ⟨⟨.mk k n ats t ks, a, va, vk, ⟨h2, ⟨zs, h3, h4⟩⟩, f1⟩ :: (T1 ++ T2), Tells.cons_iff.2 ⟨_, zs, ys, T1, T2, rfl, rfl, by rw [h1]; rfl, h3, rfl, t1, t2⟩, ?_⟩
    rw [M3.seqN_cons, List.map_cons, List.map_append, e1, e2]
    rfl

theorem room_none {F : Fence} (hd : F.depth = none) (k : Nat) : F.room k := fun d h => by rw [hd] at h; cases h
theorem yield_deep {F : Fence} (hd : F.depth = none) {m : Nat} (m' : Nat) {P : Program} {l : Nat} {args : Array Value} {W : World} {R : Ending → World → Prop} (h : YieldAt F m P l args W R) : YieldAt F m' P l args W R := by
  obtain ⟨fn, tmps, assign, body, hy, hR⟩ := h
  exact ⟨fn, tmps, assign, body, hy, hR.1, fun c cs _ => hR.2 c cs (room_none hd _)⟩
theorem weight_mem {x : Nd} {l : List Nd} (h : x ∈ l) : M3.weight x.kids < M3.weight l := by
  induction l with
  | nil => cases h
  | cons y r ih =>
    rw [M3.weight_cons]
    rcases List.mem_cons.1 h with rfl | h
    · omega
    · have := ih h; omega

/-- What a round keeps: all that lay below n₀, and each variable of five cells laid from n₁ on. -/
structure Kp5 (n₀ n₁ : Nat) (W W' : World) : Prop where
  low : Below n₀ W W'
  five : ∀ (b : Nat) (cs : Array Value) (t : TypeId), n₁ ≤ b → cs.size = 5 → W.heap[b]? = some (.cells cs t (0, 0)) → W'.heap[b]? = some (.cells cs t (0, 0))
section
variable {n₀ n₁ : Nat} {A B C : World}
theorem Kp5.refl (A : World) : Kp5 n₀ n₁ A A := ⟨Below.refl _ _, fun _ _ _ _ _ h => h⟩
theorem Kp5.trans (h : Kp5 n₀ n₁ A B) (k : Kp5 n₀ n₁ B C) : Kp5 n₀ n₁ A C := ⟨h.low.trans k.low, fun b cs t hb hc h1 => k.five b cs t hb hc (h.five b cs t hb hc h1)⟩
theorem Kp5.of_below (h : Below A.heap.size A B) (hn : n₀ ≤ A.heap.size) : Kp5 n₀ n₁ A B := ⟨h.mono hn, fun b _ _ _ _ h1 => (h.block b (Array.getElem?_eq_some_iff.1 h1).1).trans h1⟩
theorem Kp5.box (h : Kp5 n₀ n₁ A B) {g : Nat} {t : TypeId} {x : Nd} {va vk : Value} (hb : Box A g t (x.cells va vk)) (hg : n₁ ≤ g) : Box B g t (x.cells va vk) := h.five g _ t hg rfl hb
theorem kp5_b {w : World} (hn : n₀ ≤ w.heap.size) (W : World) (l : Nat) (o o' : Obj) (hl : w.heap.size ≤ l) (h : W.heap[l]? = some o) (hc : o.isCells = false) (hw : o.isWalk = false) : Kp5 n₀ n₁ W (W.putObj l o') :=
  ⟨belowK_b hn W l o o' hl h hc hw, fun b _ _ _ _ h1 => ((grownBy_putObj' W l o').block b (Array.getElem?_eq_some_iff.1 h1).1 (fun e => by cases e; rw [h1] at h; cases h; cases hc)).trans h1⟩
end


end Go.Proofs.Ytlknmnldblodbaa

/- Layer 4 by plain definitions: nodes' text. No program in it. -/
namespace Go.Proofs.Ytlknmnldblodbaa

namespace M4
def attB (a : Att) : List UInt8 := 32 :: (a.name.data.toList ++ ([61, 34] ++ (M2.escape true a.value.data.toList ++ [34])))
def attsB (l : List Att) : List UInt8 := l.flatMap attB
def headB (n : ByteArray) (l : List Att) : List UInt8 := 60 :: (n.data.toList ++ (attsB l ++ [62]))
def endB (n : ByteArray) : List UInt8 := if M3.voidB n.data.toList then [] else [60, 47] ++ (n.data.toList ++ [62])
def openB (x : Nd) : List UInt8 := if x.kind = 1 then headB x.name x.attrs else []
def closeB (x : Nd) : List UInt8 := if x.kind = 1 then endB x.name else []
def charsB (raw : Bool) (t : ByteArray) : List UInt8 := if raw then t.data.toList else M2.escape false t.data.toList
def commB (t : ByteArray) : List UInt8 := [60, 33, 45, 45] ++ (t.data.toList ++ [45, 45, 62])
def textB : Bool → List Nd → List UInt8
  | _, [] => []
  | raw, .mk k n a t ks :: r =>
    (if k = 1 then headB n a ++ ((if M3.voidB n.data.toList then [] else textB (M3.rawB n.data.toList) ks) ++ endB n)
     else if k = 2 then charsB raw t else if k = 3 then commB t else []) ++ textB raw r
termination_by _ l => SizeOf.sizeOf l
def oneB (raw : Bool) (x : Nd) : List UInt8 :=
  if x.kind = 1 then headB x.name x.attrs ++ ((if M3.voidB x.name.data.toList then [] else textB (M3.rawB x.name.data.toList) x.kids) ++ endB x.name)
  else if x.kind = 2 then charsB raw x.text else if x.kind = 3 then commB x.text else []
def innerB (v raw : Bool) (ks : List Nd) : List UInt8 := if v then [] else textB raw ks
theorem oneB_1 {raw : Bool} {x : Nd} (h : x.kind = 1) : oneB raw x = headB x.name x.attrs ++ (innerB (M3.voidB x.name.data.toList) (M3.rawB x.name.data.toList) x.kids ++ endB x.name) := by unfold oneB innerB; rw [if_pos h]
theorem innerB_no (raw : Bool) (ks : List Nd) : innerB false raw ks = textB raw ks := rfl
theorem innerB_yes (raw : Bool) (ks : List Nd) : innerB true raw ks = [] := rfl
theorem innerB_len (v raw : Bool) (ks : List Nd) : (innerB v raw ks).length ≤ (textB raw ks).length := by cases v <;> simp [innerB]
theorem oneB_2 {raw : Bool} {x : Nd} (h : x.kind = 2) : oneB raw x = charsB raw x.text := by unfold oneB; rw [if_neg (by omega), if_pos h]
theorem oneB_3 {raw : Bool} {x : Nd} (h : x.kind = 3) : oneB raw x = commB x.text := by unfold oneB; rw [if_neg (by omega), if_neg (by omega), if_pos h]
theorem oneB_4 {raw : Bool} {x : Nd} (h1 : x.kind ≠ 1) (h2 : x.kind ≠ 2) (h3 : x.kind ≠ 3) : oneB raw x = [] := by unfold oneB; rw [if_neg h1, if_neg h2, if_neg h3]
theorem textB_nil (raw : Bool) : textB raw [] = [] := by rw [textB]
theorem textB_cons (raw : Bool) (x : Nd) (r : List Nd) : textB raw (x :: r) = oneB raw x ++ textB raw r := by cases x; rw [textB]; rfl
theorem textB_append (raw : Bool) (a b : List Nd) : textB raw (a ++ b) = textB raw a ++ textB raw b := by
  induction a with
  | nil => rw [textB_nil]; rfl
  | cons x r ih => rw [List.cons_append, textB_cons, textB_cons, ih, List.append_assoc]
theorem textB_snoc (raw : Bool) (a : List Nd) (x : Nd) : textB raw (a ++ [x]) = textB raw a ++ oneB raw x := by
  rw [textB_append, textB_cons, textB_nil, List.append_nil]
theorem textB_take (raw : Bool) (l : List Nd) (i : Nat) (h : i < l.length) : textB raw (l.take (i + 1)) = textB raw (l.take i) ++ oneB raw l[i] := by
  rw [List.take_succ_eq_append_getElem h, textB_snoc]
theorem textB_prefix (raw : Bool) (l : List Nd) (i : Nat) : (textB raw (l.take i)).length ≤ (textB raw l).length := by
  have : textB raw l = textB raw (l.take i) ++ textB raw (l.drop i) := by rw [← textB_append, List.take_append_drop]
  rw [this, List.length_append]; omega
def plainT : List Nd → List UInt8
  | [] => []
  | .mk k _ _ t ks :: r => (if k = 2 then t.data.toList else []) ++ (plainT ks ++ plainT r)
termination_by l => SizeOf.sizeOf l
def plain1 (x : Nd) : List UInt8 := (if x.kind = 2 then x.text.data.toList else []) ++ plainT x.kids
theorem plainT_nil : plainT [] = [] := by rw [plainT]
theorem plainT_cons (x : Nd) (r : List Nd) : plainT (x :: r) = plain1 x ++ plainT r := by cases x; rw [plainT, ← List.append_assoc]; rfl
theorem plainT_append (a b : List Nd) : plainT (a ++ b) = plainT a ++ plainT b := by
  induction a with
  | nil => rw [plainT_nil]; rfl
  | cons x r ih => rw [List.cons_append, plainT_cons, plainT_cons, ih, List.append_assoc]
theorem plainT_take (l : List Nd) (i : Nat) (h : i < l.length) : plainT (l.take (i + 1)) = plainT (l.take i) ++ plain1 l[i] := by
  rw [List.take_succ_eq_append_getElem h, plainT_append, plainT_cons, plainT_nil, List.append_nil]
theorem plainT_prefix (l : List Nd) (i : Nat) : (plainT (l.take i)).length ≤ (plainT l).length := by
  have : plainT l = plainT (l.take i) ++ plainT (l.drop i) := by rw [← plainT_append, List.take_append_drop]
  rw [this, List.length_append]; omega
theorem attsB_take (l : List Att) (i : Nat) (h : i < l.length) : attsB (l.take (i + 1)) = attsB (l.take i) ++ attB l[i] := by
  unfold attsB
  rw [List.take_succ_eq_append_getElem h, List.flatMap_append, List.flatMap_cons, List.flatMap_nil, List.append_nil]
theorem attsB_prefix (l : List Att) (i : Nat) : (attsB (l.take i)).length ≤ (attsB l).length := by
  have : attsB l = attsB (l.take i) ++ attsB (l.drop i) := by rw [attsB, attsB, attsB, ← List.flatMap_append, List.take_append_drop]
  rw [this, List.length_append]; omega

/-! ### How long -/
theorem attsB_len (l : List Att) (h : ∀ a ∈ l, a.name.size ≤ 268435456 ∧ a.value.size ≤ 268435456) : (attsB l).length ≤ l.length * 4294967296 := by
  induction l with
  | nil => simp [attsB]
  | cons a r ih =>
    have h1 := ih (fun b hb => h b (by simp [hb]))
    obtain ⟨h2, h3⟩ := h a (by simp)
    have h4 := M2.escape_len true a.value.data.toList
    have e : (attsB (a :: r)).length = (attB a).length + (attsB r).length := by simp [attsB]
    have e2 : (attB a).length = a.name.size + (M2.escape true a.value.data.toList).length + 4 := by
      simp only [attB, List.length_cons, List.length_append, List.length_nil]
      show a.name.size + _ + 1 = _
      omega
    have h5 : a.value.data.toList.length = a.value.size := rfl
    rw [e, List.length_cons]
    omega
theorem headB_len (n : ByteArray) (l : List Att) : (headB n l).length = n.size + (attsB l).length + 2 := by
  simp only [headB, List.length_cons, List.length_append, List.length_nil]
  show n.size + _ + 1 = _
  omega
theorem endB_len (n : ByteArray) : (endB n).length ≤ n.size + 3 := by
  unfold endB
  split
  · simp
  · simp only [List.length_cons, List.length_append, List.length_nil]; show _ + (n.size + _) ≤ _; omega
theorem charsB_len (raw : Bool) (t : ByteArray) : t.size ≤ (charsB raw t).length ∧ (charsB raw t).length ≤ 6 * t.size := by
  have h := M2.escape_len false t.data.toList
  have h5 : t.data.toList.length = t.size := rfl
  unfold charsB
  split
  · omega
  · refine ⟨?_, by omega⟩
    rw [← h5]
    generalize t.data.toList = l
    induction l with
    | nil => simp
    | cons c r ih =>
      rw [M2.escape_cons, List.length_append, List.length_cons]
      have : 1 ≤ (M2.esc false c).length := by unfold M2.esc; (repeat' split) <;> simp
      omega
theorem commB_len (t : ByteArray) : (commB t).length = t.size + 7 := by
  simp only [commB, List.length_cons, List.length_append, List.length_nil]; show _ + (t.size + _) = _; omega
end M4
end Go.Proofs.Ytlknmnldblodbaa

/- Package write: what is handed to a function that puts: what stands ahead of an element's kids, behind them, a text. -/
namespace Go.Proofs.Ytlknmnldblodbaa
open Go.RowKit

/-- Nothing below B has changed, and of what there was no node, attribute or list. -/
structure Kw (B : Nat) (w w' : World) : Prop where
  low : Below B w w'
  kept : ∀ (k : Nat) (c : Array Value) (t : TypeId) (fr : Nat × Nat), w.heap[k]? = some (.cells c t fr) → t = 40 ∨ t = 44 ∨ t = 37 → w'.heap[k]? = some (.cells c t fr)
theorem Kw.refl (B : Nat) (w : World) : Kw B w w := ⟨Below.refl _ _, fun _ _ _ _ h _ => h⟩
theorem Kw.trans {B : Nat} {a b c : World} (h : Kw B a b) (k : Kw B b c) : Kw B a c := ⟨h.low.trans k.low, fun i cs t fr h1 h2 => k.kept i cs t fr (h.kept i cs t fr h1 h2) h2⟩
theorem Kw.of_below {B : Nat} {a b : World} (h : Below a.heap.size a b) (hB : B ≤ a.heap.size) : Kw B a b :=
  ⟨h.mono hB, fun i _ _ _ h1 _ => (h.block i (Array.getElem?_eq_some_iff.1 h1).1).trans h1⟩
theorem Kw.box {B : Nat} {a b : World} (h : Kw B a b) {g : Nat} {t : TypeId} {cs : List Value} (hb : Box a g t cs) (ht : t = 40 ∨ t = 44 ∨ t = 37) : Box b g t cs := h.kept _ _ _ _ hb ht
theorem Kw.size {B : Nat} {a b : World} (h : Kw B a b) : a.heap.size ≤ b.heap.size := h.low.size

def PutPost (B : Nat) (P : List UInt8 → World → Prop) (acc : List UInt8) (w : World) (e : Ending) (w' : World) : Prop := e = .returned (.tuple #[]) ∧ P acc w' ∧ Kw B w w'
/-- The function F, with the variable g that it captured, puts a text behind what P says. -/
structure Puts (B F g : Nat) (P : List UInt8 → World → Prop) : Prop where
  enter : ∀ (args : Array Value) (w : World), (callFunc F args).run Try.prog w = .ok (.enter F args) w
  base : ∀ acc w, P acc w → B ≤ w.heap.size
  stab : ∀ acc w w', P acc w → Below w.heap.size w w' → P acc w'
  call : ∀ acc (s : ByteArray) w, P acc w → acc.length + s.size ≤ 70368744177664 → Calls Try.prog F #[.string s, .pointer (some ⟨g, 0, none⟩)] w (PutPost B P (acc ++ s.data.toList) w)

theorem textB_len (l : List Nd) : FitN l → ∀ raw, (M4.textB raw l).length ≤ M3.weight l * 4294967296 := by
  induction l using Nd.ind with
  | h0 => intro _ raw; rw [M4.textB_nil]; simp
  | h1 k n ats t ks r ih1 ih2 =>
    intro hf raw
    obtain ⟨f1, f2, f3⟩ := fitN_cons.1 hf
    rw [M4.textB_cons, M3.weight_cons, List.length_append]
    have h2 := ih2 f3 raw
    have h1 := ih1 f2 (M3.rawB n.data.toList)
    have h3 := M4.attsB_len ats f1.2.2.1
    have h4 := M4.headB_len n ats
    have h5 := M4.endB_len n
    have h6 := M4.charsB_len raw t
    have h7 := M4.commB_len t
    have h8 : n.size ≤ 268435456 := f1.1
    have h9 : t.size ≤ 268435456 := f1.2.1
    have h10 : (M4.oneB raw (.mk k n ats t ks)).length ≤ (1 + ats.length + M3.weight ks) * 4294967296 := by
      generalize hx : Nd.mk k n ats t ks = x at *
      have e1 : x.kind = k := by rw [← hx]; rfl
      have e2 : x.name = n := by rw [← hx]; rfl
      have e3 : x.attrs = ats := by rw [← hx]; rfl
      have e4 : x.text = t := by rw [← hx]; rfl
      have e5 : x.kids = ks := by rw [← hx]; rfl
      clear hx
      subst e1 e2 e3 e4 e5
      by_cases k1 : x.kind = 1
      · rw [M4.oneB_1 k1, List.length_append, List.length_append]
        have := M4.innerB_len (M3.voidB x.name.data.toList) (M3.rawB x.name.data.toList) x.kids
        omega
      by_cases k2 : x.kind = 2
      · rw [M4.oneB_2 k2]; omega
      by_cases k3 : x.kind = 3
      · rw [M4.oneB_3 k3]; omega
      rw [M4.oneB_4 k1 k2 k3]; simp
    simp only [Nd.attrs, Nd.kids] at *
    omega


end Go.Proofs.Ytlknmnldblodbaa
