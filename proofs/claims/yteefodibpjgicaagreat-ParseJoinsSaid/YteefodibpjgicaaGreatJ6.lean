/- Texts joined: Math7b, Mod1, Bld1, Bld2, Bld3, Bld4, Ref06, Ref07b. -/
import Derived.Maps.OwnSet
import Derived.Maps.AppendAt
import Derived.Shelf.RegionOpenPlain
import Derived.Deep.RegionHeld3
import Derived.Deep.AppendLies
import Derived.RegionTactic
import Derived.BigRegion
import Derived.Test.YteefodibpjgicaaGreatRows
import Derived.Test.YteefodibpjgicaaGreatJ1
import Derived.Test.YteefodibpjgicaaGreatJ2
import Derived.Test.YteefodibpjgicaaGreatJ3
import Derived.Test.YteefodibpjgicaaGreatJ4
import Derived.Test.YteefodibpjgicaaGreatJ5
namespace Go.Proofs.YteefodibpjgicaaGreat
namespace M7
open M3 (isText withText cat push)
def el (y : Nd) (ks : List Nd) : Nd := .mk 1 y.name y.attrs ⟨#[]⟩ ks
def tr : List Nd → List Nd → List Nd
  | [], z => z
  | [x], z => x.kids ++ z
  | x :: y :: r, z => x.kids ++ [el y (tr (y :: r) z)]
def endK (t : List UInt8) : List Nd := if t = [] then [] else [.mk 2 ⟨#[]⟩ [] ⟨t.toArray⟩ []]
def namesF (fs : List Nd) : List ByteArray := (fs.drop 1).map Nd.name
theorem tr_cons (x y : Nd) (r : List Nd) (z : List Nd) : tr (x :: y :: r) z = x.kids ++ [el y (tr (y :: r) z)] := rfl
theorem tr_step (a : Nd) (A : List Nd) (x : Nd) (z : List Nd) : ∃ h, tr (a :: (A ++ [x])) z = a.kids ++ [el h (tr (A ++ [x]) z)] ∧ (∀ x' : Nd, x'.name = x.name → x'.attrs = x.attrs → ∀ z', tr (a :: (A ++ [x'])) z' = a.kids ++ [el h (tr (A ++ [x']) z')]) ∧ h.name = ((A ++ [x]).map Nd.name).headD ⟨#[]⟩ := by
  cases A with
  | nil => exact ⟨x, rfl, fun x' hn ha z' => by show _ ++ [el x' _] = _ ++ [el x _]; unfold el; rw [hn, ha]; rfl, rfl⟩
  | cons c A => exact ⟨c, rfl, fun _ _ _ _ => rfl, rfl⟩
theorem tr_in (A : List Nd) (x : Nd) (a b : List Nd) : tr (A ++ [wk x (x.kids ++ a)]) b = tr (A ++ [x]) (a ++ b) := by
  induction A with
  | nil => show (x.kids ++ a) ++ b = x.kids ++ (a ++ b); rw [List.append_assoc]
  | cons c A ih =>
    obtain ⟨h, e1, e2, _⟩ := tr_step c A x (a ++ b)
    have e3 := e2 (wk x (x.kids ++ a)) rfl rfl b
    rw [List.cons_append, List.cons_append, e1, e3, ih]
theorem tr_shut (A : List Nd) (x y : Nd) (z : List Nd) : tr (A ++ [wk x (x.kids ++ [el y (y.kids ++ z)])]) [] = tr (A ++ [x, y]) z := by
  induction A with
  | nil => show (x.kids ++ [el y (y.kids ++ z)]) ++ [] = x.kids ++ [el y (y.kids ++ z)]; rw [List.append_nil]
  | cons c A ih =>
    obtain ⟨h, e1, e2, _⟩ := tr_step c A x []
    have e3 := e2 (wk x (x.kids ++ [el y (y.kids ++ z)])) rfl rfl []
    rw [List.cons_append, List.cons_append, e3, ih]
    cases A with
    | nil =>
      have : h = h := rfl
      have e4 : tr ([c] ++ [x]) [] = c.kids ++ [el x (tr [x] [])] := rfl
      have e5 : c.kids ++ [el h (tr ([] ++ [x]) [])] = c.kids ++ [el x (tr [x] [])] := e1.symm.trans e4
      have e6 : el h (tr ([] ++ [x]) []) = el x (tr [x] []) := by
        have := List.append_cancel_left e5
        exact (List.cons.inj this).1
      have e7 : h.name = x.name ∧ h.attrs = x.attrs := by
        unfold el at e6
        injection e6 with _ q1 q2 _ _
        exact ⟨q1, q2⟩
      show c.kids ++ [el h (tr [x, y] z)] = c.kids ++ [el x (tr [x, y] z)]
      unfold el
      rw [e7.1, e7.2]
    | cons b A =>
      have e4 : tr (c :: ((b :: A) ++ [x])) [] = c.kids ++ [el b (tr (b :: (A ++ [x])) [])] := rfl
      have e5 := e1.symm.trans e4
      have e6 : el h (tr ((b :: A) ++ [x]) []) = el b (tr (b :: (A ++ [x])) []) := (List.cons.inj (List.append_cancel_left e5)).1
      have e7 : h.name = b.name ∧ h.attrs = b.attrs := by
        unfold el at e6
        injection e6 with _ q1 q2 _ _
        exact ⟨q1, q2⟩
      show c.kids ++ [el h (tr ((b :: A) ++ [x, y]) z)] = c.kids ++ [el b (tr ((b :: A) ++ [x, y]) z)]
      unfold el
      rw [e7.1, e7.2]
theorem names_snoc (a : Nd) (A : List Nd) (x : Nd) : namesF (a :: A ++ [x]) = namesF (a :: A) ++ [x.name] := by
  unfold namesF
  simp
theorem tr_is (A : List Nd) (x : Nd) (z : List Nd) : okD A.length (tr (A ++ [x]) z) ∧ openN A.length (tr (A ++ [x]) z) = namesF (A ++ [x]) ∧ levelN A.length (tr (A ++ [x]) z) = x.kids ++ z ∧ ∀ n, putN A.length n (tr (A ++ [x]) z) = tr (A ++ [wk x []]) (push (x.kids ++ z) n) := by
  induction A with
  | nil => exact ⟨trivial, rfl, rfl, fun n => by show push (x.kids ++ z) n = [] ++ _; rw [List.nil_append]⟩
  | cons c A ih =>
    obtain ⟨q1, q2, q3, q4⟩ := ih
    obtain ⟨h, e1, e2, e3⟩ := tr_step c A x z
    rw [List.cons_append, e1, List.length_cons, okD_snoc, openN_snoc, levelN_snoc]
    refine ⟨q1, ?_, q3, fun n => ?_⟩
    · show h.name :: openN A.length (tr (A ++ [x]) z) = _
      rw [q2, e3]
      unfold namesF
      cases A with
      | nil => rfl
      | cons b A => rfl
    · rw [putN_snoc, List.cons_append, e2 (wk x []) rfl rfl]
      show c.kids ++ [wk (el h (tr (A ++ [x]) z)) (putN A.length n (tr (A ++ [x]) z))] = _
      rw [q4]; rfl
theorem endK_nil : endK [] = [] := rfl
theorem endK_cons {t : List UInt8} (h : t ≠ []) : endK t = [.mk 2 ⟨#[]⟩ [] ⟨t.toArray⟩ []] := by unfold endK; rw [if_neg h]
def noTx (l : List Nd) : Prop := ∀ y, l.getLast? = some y → isText y = false
theorem noTx_nil : noTx [] := fun _ h => by cases h
theorem noTx_snoc {l : List Nd} {x : Nd} (h : isText x = false) : noTx (l ++ [x]) := fun y hy => by
  rw [List.getLast?_concat] at hy; cases hy; exact h
theorem push_more {l : List Nd} (h : noTx l) (t s : List UInt8) (x : Nd) (hx : x = .mk 2 ⟨#[]⟩ [] ⟨s.toArray⟩ []) : push (l ++ endK t) x = l ++ endK (t ++ s) := by
  subst hx
  by_cases hs : s = []
  · subst hs
    rw [M3.push_bare (by rw [M3.bareB_iff]; exact ⟨rfl, by rw [M3.nilB_data']; rfl⟩), List.append_nil]
  · have hb : M3.bareB (.mk 2 ⟨#[]⟩ [] ⟨s.toArray⟩ []) = false := by
      cases hq : M3.bareB (.mk 2 ⟨#[]⟩ [] ⟨s.toArray⟩ [])
      · rfl
      · obtain ⟨_, h2⟩ := M3.bareB_iff.1 hq
        rw [M3.nilB_data'] at h2
        exact absurd (List.isEmpty_iff.1 h2) hs
    rw [endK_cons (t := t ++ s) (by simp [hs])]
    by_cases ht : t = []
    · subst ht
      rw [endK_nil, List.append_nil, List.nil_append]
      rcases List.eq_nil_or_concat l with rfl | ⟨B, y, rfl⟩
      · rw [M3.push_none hb]; rfl
      · rw [List.concat_eq_append, M3.push_snoc hb]
        have : isText y = false := h y (by rw [List.concat_eq_append, List.getLast?_concat])
        rw [this]
        simp
    · rw [endK_cons ht, M3.push_snoc hb]
      show (if true && true then _ else _) = _
      rw [if_pos (by rfl)]
      show l ++ [Nd.mk 2 ⟨#[]⟩ [] (cat ⟨t.toArray⟩ ⟨s.toArray⟩) []] = _
      have : cat ⟨t.toArray⟩ ⟨s.toArray⟩ = ⟨(t ++ s).toArray⟩ := by unfold cat; simp
      rw [this]
theorem push_node {l : List Nd} (x : Nd) (h : isText x = false) : push l x = l ++ [x] := by
  have hb : M3.bareB x = false := by unfold M3.bareB; rw [h]; rfl
  rcases List.eq_nil_or_concat l with rfl | ⟨B, y, rfl⟩
  · rw [M3.push_none hb]; rfl
  · rw [List.concat_eq_append, M3.push_snoc hb, h]
    simp
def plc (o : List ByteArray) (nm : ByteArray) : Nat → Nat
  | 0 => 0
  | n + 1 => if (o.getD n ⟨#[]⟩).data.toList = nm.data.toList then n + 1 else plc o nm n
theorem plc_end (o : List ByteArray) (nm : ByteArray) (n : Nat) : endAt o nm n = if plc o nm n = 0 then none else some (plc o nm n - 1) := by
  induction n with
  | zero => rfl
  | succ n ih =>
    rw [endAt, plc]
    split
    · simp
    · exact ih
theorem plc_le (o : List ByteArray) (nm : ByteArray) (n : Nat) : plc o nm n ≤ n := by
  induction n with
  | zero => exact Nat.le_refl _
  | succ n ih => rw [plc]; split <;> omega
theorem plc_pre (o p : List ByteArray) (nm : ByteArray) (n : Nat) (h : n ≤ o.length) : plc (o ++ p) nm n = plc o nm n := by
  induction n with
  | zero => rfl
  | succ n ih =>
    rw [plc, plc, ih (by omega)]
    have : (o ++ p).getD n ⟨#[]⟩ = o.getD n ⟨#[]⟩ := by
      rw [List.getD_eq_getElem?_getD, List.getD_eq_getElem?_getD, List.getElem?_append_left (by omega)]
    rw [this]
theorem plc_snoc (o : List ByteArray) (a nm : ByteArray) : plc (o ++ [a]) nm (o.length + 1) = if a.data.toList = nm.data.toList then o.length + 1 else plc o nm o.length := by
  rw [plc, plc_pre o [a] nm _ (Nat.le_refl _)]
  have : (o ++ [a]).getD o.length ⟨#[]⟩ = a := by
    rw [List.getD_eq_getElem?_getD, List.getElem?_append_right (Nat.le_refl _)]
    simp
  rw [this]
theorem close_pre (o p : List ByteArray) (b : ByteArray) (n : Nat) (h : n ≤ o.length) : closeAt (o ++ p) b n = closeAt o b n := by
  induction n with
  | zero => rfl
  | succ n ih =>
    rw [closeAt, closeAt, ih (by omega)]
    have : (o ++ p).getD n ⟨#[]⟩ = o.getD n ⟨#[]⟩ := by
      rw [List.getD_eq_getElem?_getD, List.getD_eq_getElem?_getD, List.getElem?_append_left (by omega)]
    rw [this]
theorem close_snoc (o : List ByteArray) (a b : ByteArray) : closeAt (o ++ [a]) b (o.length + 1) = if M6.closesB a.data.toList b.data.toList = true then closeAt o b o.length else o.length + 1 := by
  rw [closeAt, close_pre o [a] b _ (Nat.le_refl _)]
  have : (o ++ [a]).getD o.length ⟨#[]⟩ = a := by
    rw [List.getD_eq_getElem?_getD, List.getElem?_append_right (Nat.le_refl _)]
    simp
  rw [this]
theorem weight_push (l : List Nd) (x : Nd) : M3.weight (push l x) ≤ M3.weight l + M3.weight [x] := by
  cases hb : M3.bareB x
  · rcases List.eq_nil_or_concat l with rfl | ⟨B, y, rfl⟩
    · rw [M3.push_none hb]; omega
    · rw [List.concat_eq_append, M3.push_snoc hb]
      split
      · rw [M3.weight_append, M3.weight_append, M3.weight_cons, M3.weight_cons, M3.withText_attrs, M3.withText_kids]
        omega
      · rw [M3.weight_append]; omega
  · rw [M3.push_bare hb]; omega
theorem weight_put {d : Nat} {L : List Nd} (x : Nd) (h : okD d L) : M3.weight (putN d x L) ≤ M3.weight L + M3.weight [x] := by
  induction d generalizing L with
  | zero => exact weight_push L x
  | succ d ih =>
    rcases List.eq_nil_or_concat L with rfl | ⟨A, y, rfl⟩
    · exact h.elim
    · rw [List.concat_eq_append, okD_snoc] at *
      rw [putN_snoc, M3.weight_append, M3.weight_append, M3.weight_cons, M3.weight_cons]
      show _ + (1 + y.attrs.length + M3.weight (putN d x y.kids) + _) ≤ _
      have := ih h
      omega
end M7
end Go.Proofs.YteefodibpjgicaaGreat

namespace Go.Proofs.YteefodibpjgicaaGreat
open Go.RowKit Go.Maps Go.WideShapes
def Txs (S : Nat → Prop) (w : World) (v : Value) (l : List ByteArray) : Prop := Row S w 1 v l.length (l.flatMap fun s => [.string s])
def hasT (s : ByteArray) (l : List ByteArray) : Bool := l.any fun t => s.toList == t.toList
theorem hasT_drop (s : ByteArray) (l : List ByteArray) (i : Nat) (h : i < l.length) : hasT s (l.drop i) = ((s.toList == l[i].toList) || hasT s (l.drop (i + 1))) := by
  rw [List.drop_eq_getElem_cons h]; rfl
set_option maxHeartbeats 1000000 in
theorem slIndex (S : Nat → Prop) (v : Value) (s : ByteArray) (l : List ByteArray) (w : World) (hr : Txs S w v l) :
    Calls Tryz.prog 226 #[v, .string s] w fun e w' => (∃ z : Int, e = .returned (.int .i64 z) ∧ decide (0 ≤ z) = hasT s l) ∧ w = w' := by
  obtain ⟨a, cap, rfl⟩ := Row.slice hr
  obtain ⟨_, hlc, hcm⟩ := Row.len hr
  have h0 : Hid (hasT s l = hasT s (l.drop 0)) := rfl
  obtain ⟨wo, rfl⟩ : ∃ wo : World, wo = w := ⟨_, rfl⟩
  go_enter Tryz.func226, Tryz.ntmps226
  go_wp2_with fail
  go_loopw [5, 8] (fun _ u8 wr => wo = wr ∧ ∃ i : Nat, i ≤ l.length ∧ u8 = .int .i64 (i : Int) ∧ Hid (hasT s l = hasT s (l.drop i))) (fun _ u8 _ => l.length - (intOf u8).toNat)
  case atStart => exact ⟨rfl, 0, by omega, rfl, h0⟩
  case round =>
    obtain ⟨rfl, i, hi, rfl, hv⟩ := hrel
    by_cases hlt : i < l.length
    · obtain ⟨b, off, rfl, _, c0⟩ := Row.atS hr i hlt
      have hd := hv.out.trans (hasT_drop s l i hlt)
      clear hv
      cases ht : (s.toList == l[i].toList)
      · rw [ht, Bool.false_or] at hd
        replace hd := Lib.hid hd
        generalize l[i] = t at *
        go_wp2_with fail
        go_roundw
        case rel => exact ⟨trivial, i + 1, by omega, by go_num, hd⟩
        case measure => exact meas_nat hlt
      · rw [ht, Bool.true_or] at hd
        replace hd := Lib.hid hd
        generalize l[i] = t at *
        go_wp2_with fail
        go_ret
        exact ⟨⟨_, rfl, by rw [hd.out]; simp⟩, rfl⟩
    · obtain rfl : i = l.length := by omega
      have hd := hv.out
      rw [List.drop_length] at hd
      replace hd := Lib.hid hd
      clear hv
      go_wp2_with fail
      go_ret
      exact ⟨⟨_, rfl, by rw [hd.out]; rfl⟩, rfl⟩
theorem slContains (S : Nat → Prop) (v : Value) (s : ByteArray) (l : List ByteArray) (w : World) (hr : Txs S w v l) :
    Calls Tryz.prog 224 #[v, .string s] w fun e w' => e = .returned (.bool (hasT s l)) ∧ w = w' := by
  have hI := Lib.hid (slIndex S v s l w hr)
  obtain ⟨wo, rfl⟩ : ∃ wo : World, wo = w := ⟨_, rfl⟩
  go_enter Tryz.func224, Tryz.ntmps224
  go_wp2_with fail
  refine hI.out.mono ?_
  rintro e w1 ⟨⟨z, rfl, hz⟩, rfl⟩
  replace hz := Lib.hid hz
  go_wp2_with fail
  go_ret
  exact ⟨by rw [← hz.out]; rfl, rfl⟩
abbrev heldR : Value → Option (DataW Value × List MemPlace) := fun v => some (.held v, [])
theorem Txs.keep {S S' : Nat → Prop} {w w' : World} {v : Value} {l : List ByteArray} (h : Txs S w v l) (hk : ∀ b, S b → w'.heap[b]? = w.heap[b]?) (hs : ∀ b, S b → S' b) : Txs S' w' v l := Row.mono (Row.keep h hk) hs
theorem txs_made (S : Nat → Prop) (w : World) (t : TypeId) (l : List ByteArray) (n : Nat) (hn : l.length = n) (h : n ≤ 1000) (hS : S w.heap.size) : Txs S (w.alloc (.cells (l.map Value.string).toArray t)) (.slice (some ⟨w.heap.size, 0, none⟩) n n) l := by
  subst hn
  have e : l.flatMap (fun s => [Value.string s]) = l.map Value.string := (List.map_eq_flatMap).symm
  refine ⟨by rw [e]; simp, some ⟨w.heap.size, 0, none⟩, l.length, rfl, Nat.le_refl _, by omega, (fun h => nomatch h), fun _ => ⟨w.heap.size, 0, rfl, hS, fun j u hj => ?_⟩⟩
  rw [e] at hj
  rw [World.cell?_alloc_at _ _ _ _ rfl]
  simpa using hj
def CloSt (w wa : World) (n : Nat) (D : DataW Value) : Prop := wa.ownsMap Tryz.prog 9 heldR w.heap.size n D ∧ Below w.heap.size w wa ∧ w.heap.size < wa.heap.size
def TxsK (w wa : World) (v : Value) (l : List ByteArray) : Prop := Txs (fun b => w.heap.size < b ∧ b < wa.heap.size) wa v l
theorem clo_step {w wa : World} {n : Nat} {D : DataW Value} (h : CloSt w wa n D) (hn : n < 100) (key : List UInt8) (hk : key.length ≤ 100) (ts : List ByteArray) (k : Nat) (hl : ts.length = k) (hl2 : k ≤ 100) :
    ∃ wb, (Instr.mapUpdate 209 (.map (some w.heap.size)) (.string ⟨key.toArray⟩) (.slice (some ⟨wa.heap.size, 0, none⟩) k k)).run Tryz.prog (wa.alloc (.cells (ts.map Value.string).toArray 9)) = .ok () wb ∧
      CloSt w wb (n + 1) (D.put (.string key) (.held (.slice (some ⟨wa.heap.size, 0, none⟩) k k))) ∧ TxsK w wb (.slice (some ⟨wa.heap.size, 0, none⟩) k k) ts ∧ (∀ v l, TxsK w wa v l → TxsK w wb v l) := by
  obtain ⟨ho, hb, hz⟩ := h
  have ho2 := ho.alloc (.cells (ts.map Value.string).toArray 9)
  obtain ⟨wb, r1, r2, r3⟩ := ho2.update lawS Tryz.underlying209 (by unfold maxLen; omega) (WideMaps.keyOf_string_mk Tryz.underlying9 (s := ⟨key.toArray⟩) (by unfold maxLen; show key.length ≤ _; omega)) (val := .slice (some ⟨wa.heap.size, 0, none⟩) k k) (R := heldR) rfl
  have hsz : (wa.alloc (.cells (ts.map Value.string).toArray 9)).heap.size = wa.heap.size + 1 := by simp
  have hzb := r3.size
  have hb1 := hb.alloc (by omega) (.cells (ts.map Value.string).toArray 9)
  refine ⟨wb, r1, ⟨r2, hb1.grown r3 (by omega) (fun k hk => by cases hk; exact Nat.le_refl _), by omega⟩, ?_, fun v l hv => ?_⟩
  · refine Txs.keep (txs_made (fun b => w.heap.size < b ∧ b < wa.heap.size + 1) wa 9 ts k hl (by omega) ⟨by omega, by omega⟩) (fun b hb' => ?_) (fun b h => ⟨h.1, by omega⟩)
    exact r3.block b (by omega) (by rintro e; cases e; omega)
  · refine Txs.keep hv (fun b hb' => ?_) (fun b h => ⟨h.1, by omega⟩)
    rw [r3.block b (by omega) (by rintro e; cases e; omega)]
    exact Below.heap_alloc wa _ b hb'.2
def cl_p : List ByteArray := [⟨#[98, 108, 111, 99, 107, 113, 117, 111, 116, 101]⟩, ⟨#[100, 105, 118]⟩, ⟨#[104, 49]⟩, ⟨#[104, 50]⟩, ⟨#[104, 114]⟩, ⟨#[108, 105]⟩, ⟨#[111, 108]⟩, ⟨#[112]⟩, ⟨#[112, 114, 101]⟩, ⟨#[116, 97, 98, 108, 101]⟩, ⟨#[117, 108]⟩]
def cl_li : List ByteArray := [⟨#[108, 105]⟩]
def cl_dt : List ByteArray := [⟨#[100, 100]⟩, ⟨#[100, 116]⟩]
def cl_dd : List ByteArray := [⟨#[100, 100]⟩, ⟨#[100, 116]⟩]
def cl_option : List ByteArray := [⟨#[111, 112, 116, 105, 111, 110]⟩]
def cl_td : List ByteArray := [⟨#[116, 100]⟩, ⟨#[116, 114]⟩]
def cl_tr : List ByteArray := [⟨#[116, 114]⟩]
def cloRow (v : Nat → Value) : List (Lit × DataW Value) := [(.string [112], .held (v 0)), (.string [108, 105], .held (v 1)), (.string [100, 116], .held (v 2)), (.string [100, 100], .held (v 3)), (.string [111, 112, 116, 105, 111, 110], .held (v 4)), (.string [116, 100], .held (v 5)), (.string [116, 114], .held (v 6))]
def Clo (w : World) (b : Nat) : Prop := ∃ v : Nat → Value, w.ownsMap Tryz.prog 9 heldR b 7 (rowD (cloRow v) (.map [])) ∧ Txs (fun b => b < w.heap.size) w (v 0) cl_p ∧ Txs (fun b => b < w.heap.size) w (v 1) cl_li ∧ Txs (fun b => b < w.heap.size) w (v 2) cl_dt ∧ Txs (fun b => b < w.heap.size) w (v 3) cl_dd ∧ Txs (fun b => b < w.heap.size) w (v 4) cl_option ∧ Txs (fun b => b < w.heap.size) w (v 5) cl_td ∧ Txs (fun b => b < w.heap.size) w (v 6) cl_tr
set_option maxHeartbeats 4000000 in
theorem modClosers (w : World) : Calls Tryz.prog 225 #[] w fun e w' => ∃ b, e = .returned (.map (some b)) ∧ Clo w' b ∧ Below w.heap.size w w' := by
  have b0 := (Below.refl w.heap.size w).alloc (Nat.le_refl _) (.map #[] 0)
  have c0 : CloSt w (w.alloc (.map #[] 0)) 0 (.map []) := ⟨World.ownsMap_made w Tryz.prog 9 heldR, b0, by simp⟩
  have hmm := @run_makeMap Tryz.prog 209 w
  clear b0
  generalize w.alloc (.map #[] 0) = w0 at *
  obtain ⟨w1, r1, c1, t1, k1⟩ := clo_step c0 (by decide) [112] (by decide) cl_p 11 rfl (by decide)
  simp only [cl_p, List.map_cons, List.map_nil] at r1
  obtain ⟨w2, r2, c2, t2, k2⟩ := clo_step c1 (by decide) [108, 105] (by decide) cl_li 1 rfl (by decide)
  simp only [cl_li, List.map_cons, List.map_nil] at r2
  obtain ⟨w3, r3, c3, t3, k3⟩ := clo_step c2 (by decide) [100, 116] (by decide) cl_dt 2 rfl (by decide)
  simp only [cl_dt, List.map_cons, List.map_nil] at r3
  obtain ⟨w4, r4, c4, t4, k4⟩ := clo_step c3 (by decide) [100, 100] (by decide) cl_dd 2 rfl (by decide)
  simp only [cl_dd, List.map_cons, List.map_nil] at r4
  obtain ⟨w5, r5, c5, t5, k5⟩ := clo_step c4 (by decide) [111, 112, 116, 105, 111, 110] (by decide) cl_option 1 rfl (by decide)
  simp only [cl_option, List.map_cons, List.map_nil] at r5
  obtain ⟨w6, r6, c6, t6, k6⟩ := clo_step c5 (by decide) [116, 100] (by decide) cl_td 2 rfl (by decide)
  simp only [cl_td, List.map_cons, List.map_nil] at r6
  obtain ⟨w7, r7, c7, t7, k7⟩ := clo_step c6 (by decide) [116, 114] (by decide) cl_tr 1 rfl (by decide)
  simp only [cl_tr, List.map_cons, List.map_nil] at r7
  have q0 := k7 _ _ (k6 _ _ (k5 _ _ (k4 _ _ (k3 _ _ (k2 _ _ (t1))))))
  have q1 := k7 _ _ (k6 _ _ (k5 _ _ (k4 _ _ (k3 _ _ (t2)))))
  have q2 := k7 _ _ (k6 _ _ (k5 _ _ (k4 _ _ (t3))))
  have q3 := k7 _ _ (k6 _ _ (k5 _ _ (t4)))
  have q4 := k7 _ _ (k6 _ _ (t5))
  have q5 := k7 _ _ (t6)
  have q6 := t7
  have hz := c7.2.2
  have hB := Lib.hid c7.2.1
  have hC : Hid (Clo w7 w.heap.size) := Lib.hid ⟨fun i => match i with | 0 => .slice (some ⟨w0.heap.size, 0, none⟩) 11 11 | 1 => .slice (some ⟨w1.heap.size, 0, none⟩) 1 1 | 2 => .slice (some ⟨w2.heap.size, 0, none⟩) 2 2 | 3 => .slice (some ⟨w3.heap.size, 0, none⟩) 2 2 | 4 => .slice (some ⟨w4.heap.size, 0, none⟩) 1 1 | 5 => .slice (some ⟨w5.heap.size, 0, none⟩) 2 2 | 6 => .slice (some ⟨w6.heap.size, 0, none⟩) 1 1 | _ => undef, c7.1, Txs.keep q0 (fun _ _ => rfl) (fun b h => h.2), Txs.keep q1 (fun _ _ => rfl) (fun b h => h.2), Txs.keep q2 (fun _ _ => rfl) (fun b h => h.2), Txs.keep q3 (fun _ _ => rfl) (fun b h => h.2), Txs.keep q4 (fun _ _ => rfl) (fun b h => h.2), Txs.keep q5 (fun _ _ => rfl) (fun b h => h.2), Txs.keep q6 (fun _ _ => rfl) (fun b h => h.2)⟩
  clear c0 c1 c2 c3 c4 c5 c6 c7 t1 t2 t3 t4 t5 t6 t7 k1 k2 k3 k4 k5 k6 k7 q0 q1 q2 q3 q4 q5 q6
  go_enter Tryz.func225, Tryz.ntmps225
  go_wp2
  go_ret
  exact ⟨_, rfl, hC.out, hB.out⟩
def closedT (o : List UInt8) : List ByteArray :=
  if o = [112] then cl_p else if o = [108, 105] then cl_li else if o = [100, 116] then cl_dt else if o = [100, 100] then cl_dd else if o = [111, 112, 116, 105, 111, 110] then cl_option else if o = [116, 100] then cl_td else if o = [116, 114] then cl_tr else []
theorem closedT_map (o : List UInt8) : closedT o = (M6.closedL o).map fun l => ⟨l.toArray⟩ := by
  unfold closedT M6.closedL
  by_cases h_p : o = [112]
  · subst h_p; rfl
  by_cases h_li : o = [108, 105]
  · subst h_li; rfl
  by_cases h_dt : o = [100, 116]
  · subst h_dt; rfl
  by_cases h_dd : o = [100, 100]
  · subst h_dd; rfl
  by_cases h_option : o = [111, 112, 116, 105, 111, 110]
  · subst h_option; rfl
  by_cases h_td : o = [116, 100]
  · subst h_td; rfl
  by_cases h_tr : o = [116, 114]
  · subst h_tr; rfl
  simp only [h_p, h_li, h_dt, h_dd, h_option, h_td, h_tr, if_false, or_self]
  rfl
theorem hasT_map (s : ByteArray) (l : List (List UInt8)) : hasT s (l.map fun x => ⟨x.toArray⟩) = l.contains s.data.toList := by
  induction l with
  | nil => rfl
  | cons x r ih =>
    rw [List.map_cons, List.contains_cons, ← ih]
    show ((s.toList == (⟨x.toArray⟩ : ByteArray).toList) || hasT s _) = _
    rw [Lib.toList_data, Lib.toList_data]
theorem hasT_closed (s : ByteArray) (o : List UInt8) : hasT s (closedT o) = M6.closesB o s.data.toList := by
  rw [closedT_map, hasT_map]; rfl
theorem clo_look {w : World} {b : Nat} (h : Clo w b) (s : ByteArray) (hs : s.size ≤ 9223372036854775807) :
    ∃ v, (Instr.lookup 209 (.map (some b)) (.string s) false).run Tryz.prog w = .ok v w ∧ Txs (fun b => b < w.heap.size) w v (closedT s.data.toList) := by
  obtain ⟨v, ho, t0, t1, t2, t3, t4, t5, t6⟩ := h
  obtain ⟨x, ps, hr, hx⟩ := ho.lookup lawS Tryz.underlying209 (z := .slice none 0 0) (Tryz.zeroValue92 _) (R := heldR) rfl (WideMaps.keyOf_string_mk Tryz.underlying9 (s := s) (by unfold maxLen; omega))
  refine ⟨x, hr, ?_⟩
  have hx1 : DataW.held x = (rowD (cloRow v) (.map [])).atKey (.string s.data.toList) (.held (.slice none 0 0)) := by
    have := hx
    simp only [heldR, Option.some.injEq, Prod.mk.injEq] at this
    exact this.1
  have hk : ∀ p ∈ cloRow v, WideAt.IsKeyLit p.1 := by
    intro p hp
    simp only [cloRow, List.mem_cons, List.not_mem_nil, or_false] at hp
    rcases hp with rfl | rfl | rfl | rfl | rfl | rfl | rfl <;> exact trivial
  have hd : (cloRow v).Pairwise (fun p q => p.1 ≠ q.1) := by simp [cloRow]
  have hat := fun p hp => rowD_at (cloRow v) (.map []) (.held (.slice none 0 0)) p isMap_empty hk hd hp
  unfold closedT
  by_cases h_p : s.data.toList = [112]
  · have hp := hat (.string [112], .held (v 0)) (by simp [cloRow])
    rw [h_p, hp] at hx1
    cases hx1
    rw [h_p]
    exact t0
  by_cases h_li : s.data.toList = [108, 105]
  · have hp := hat (.string [108, 105], .held (v 1)) (by simp [cloRow])
    rw [h_li, hp] at hx1
    cases hx1
    rw [h_li]
    exact t1
  by_cases h_dt : s.data.toList = [100, 116]
  · have hp := hat (.string [100, 116], .held (v 2)) (by simp [cloRow])
    rw [h_dt, hp] at hx1
    cases hx1
    rw [h_dt]
    exact t2
  by_cases h_dd : s.data.toList = [100, 100]
  · have hp := hat (.string [100, 100], .held (v 3)) (by simp [cloRow])
    rw [h_dd, hp] at hx1
    cases hx1
    rw [h_dd]
    exact t3
  by_cases h_option : s.data.toList = [111, 112, 116, 105, 111, 110]
  · have hp := hat (.string [111, 112, 116, 105, 111, 110], .held (v 4)) (by simp [cloRow])
    rw [h_option, hp] at hx1
    cases hx1
    rw [h_option]
    exact t4
  by_cases h_td : s.data.toList = [116, 100]
  · have hp := hat (.string [116, 100], .held (v 5)) (by simp [cloRow])
    rw [h_td, hp] at hx1
    cases hx1
    rw [h_td]
    exact t5
  by_cases h_tr : s.data.toList = [116, 114]
  · have hp := hat (.string [116, 114], .held (v 6)) (by simp [cloRow])
    rw [h_tr, hp] at hx1
    cases hx1
    rw [h_tr]
    exact t6
  · rw [rowD_other (cloRow v) _ _ _ (by intro p hp; simp only [cloRow, List.mem_cons, List.not_mem_nil, or_false] at hp; rcases hp with rfl | rfl | rfl | rfl | rfl | rfl | rfl <;> (intro e; simp only [Lit.string.injEq] at e; exact absurd e.symm (by assumption)))] at hx1
    have e : x = .slice none 0 0 := by cases hx1; rfl
    rw [e, if_neg h_p, if_neg h_li, if_neg h_dt, if_neg h_dd, if_neg h_option, if_neg h_td, if_neg h_tr]
    exact Row.nil _ _ _
set_option maxHeartbeats 1000000 in
theorem modCloses (o b : ByteArray) (w : World) (ho : o.size ≤ 9223372036854775807) : Calls Tryz.prog 219 #[.string o, .string b] w fun e w' => e = .returned (.bool (M6.closesB o.data.toList b.data.toList)) ∧ Below w.heap.size w w' := by
  have hC := Lib.hid (modClosers w)
  have hL := Lib.hid (fun (w1 : World) (m : Nat) (h : Clo w1 m) => clo_look h o ho)
  rw [← hasT_closed]
  obtain ⟨wo, rfl⟩ : ∃ wo : World, wo = w := ⟨_, rfl⟩
  go_enter Tryz.func219, Tryz.ntmps219
  go_wp2_with fail
  refine hC.out.mono ?_
  rintro e w1 ⟨m, rfl, hc, hb⟩
  obtain ⟨v, r, ht⟩ := hL.out w1 m hc
  have hK := Lib.hid (slContains _ v b _ w1 ht)
  go_wp2_with fail
  refine hK.out.mono ?_
  rintro e w2 ⟨rfl, rfl⟩
  go_wp2_with fail
  go_ret
  exact ⟨rfl, hb⟩
end Go.Proofs.YteefodibpjgicaaGreat

namespace Go.Proofs.YteefodibpjgicaaGreat
open Go.RowKit Go.Maps
structure FV where
  x : Nd
  va : Value
  vk : Value
  nx : Nat
def FV.cells (f : FV) : List Value := f.x.cells f.va f.vk ++ [.int .i64 (f.nx : Int)]
def cellsF (fs : List FV) : List Value := fs.flatMap FV.cells
theorem cellsF_append (a b : List FV) : cellsF (a ++ b) = cellsF a ++ cellsF b := by simp [cellsF]
theorem cellsF_one (f : FV) : cellsF [f] = f.cells := by simp [cellsF]
theorem cellsF_len (l : List FV) : (cellsF l).length = l.length * 6 := by
  induction l with
  | nil => rfl
  | cons a r ih => simp only [cellsF, List.flatMap_cons, List.length_append, List.length_cons] at ih ⊢; rw [ih]; simp [FV.cells]; omega
theorem cellsF_last (A : List FV) (f : FV) (j : Nat) (hj : j < 6) : (cellsF (A ++ [f]))[A.length * 6 + j]? = f.cells[j]? := by
  rw [cellsF_append, cellsF_one, List.getElem?_append_right (by rw [cellsF_len]; omega), cellsF_len]
  congr 1
  omega
def roleB (g mb : Nat) (vo vt : Value) (fs : List FV) : Nat → Option Nat
  | 0 => some g
  | 1 => some mb
  | 2 => vo.ownBlock
  | 3 => vt.ownBlock
  | i + 4 => (fs[i]?).bind fun f => f.vk.ownBlock
def idleB (F : Nat → Prop) (g mb : Nat) (vo vt : Value) (fs : List FV) (b : Nat) : Prop := F b ∧ ∀ i, roleB g mb vo vt fs i ≠ some b
structure Bld (F : Nat → Prop) (w : World) (g mb : Nat) (vo vt pt : Value) (fs : List FV) (tx : List UInt8) (n : Nat) (D : DataW Unit) : Prop where
  box : Box w g 193 [vo, pt, vt, .map (some mb)]
  ptr : pt = .pointer none ∨ pt = .pointer (some ⟨g, 1, none⟩)
  row : w.ownsRow 0 189 6 vo fs.length (cellsF fs)
  text : w.ownsRowF 0 5 1 vt tx.length (u8s tx)
  map : w.ownsMap Tryz.prog 9 (plainElem (H := Unit) Tryz.prog 3) mb n D
  kids : ∀ f ∈ fs, ∃ xs, w.ownsRow 0 41 5 f.vk f.x.kids.length xs ∧ RepC (idleB F g mb vo vt fs) w xs f.x.kids
  atts : ∀ f ∈ fs, Row (idleB F g mb vo vt fs) w 2 f.va f.x.attrs.length (cellsA f.x.attrs)
  inj : ∀ i j c, roleB g mb vo vt fs i = some c → roleB g mb vo vt fs j = some c → i = j
  sub : ∀ i c, roleB g mb vo vt fs i = some c → F c
  lt : ∀ b, F b → b < w.heap.size
def grw (F : Nat → Prop) (w w' : World) (b : Nat) : Prop := F b ∨ (w.heap.size ≤ b ∧ b < w'.heap.size)
structure Out (F : Nat → Prop) (w w' : World) : Prop where
  os : w'.os = w.os
  tape : w'.tape = w.tape
  output : w'.output = w.output
  size : w.heap.size ≤ w'.heap.size
  block : ∀ b, b < w.heap.size → ¬ F b → w'.heap[b]? = w.heap[b]?
theorem Out.refl (F : Nat → Prop) (w : World) : Out F w w := ⟨rfl, rfl, rfl, Nat.le_refl _, fun _ _ _ => rfl⟩
theorem Out.trans {F : Nat → Prop} {w w1 w2 : World} (h : Out F w w1) (k : Out (grw F w w1) w1 w2) : Out F w w2 :=
  ⟨k.os.trans h.os, k.tape.trans h.tape, k.output.trans h.output, Nat.le_trans h.size k.size, fun b hb hF => (k.block b (Nat.lt_of_lt_of_le hb h.size) (fun e => e.elim hF (fun e => by omega))).trans (h.block b hb hF)⟩
theorem Out.below {F : Nat → Prop} {w w1 w2 : World} (h : Out F w w1) (k : Below w1.heap.size w1 w2) : Out F w w2 :=
  ⟨k.os.trans h.os, k.tape.trans h.tape, k.output.trans h.output, Nat.le_trans h.size k.size, fun b hb hF => (k.block b (Nat.lt_of_lt_of_le hb h.size)).trans (h.block b hb hF)⟩
theorem grw_grw {F : Nat → Prop} {w w1 w2 : World} (h1 : w.heap.size ≤ w1.heap.size) (h2 : w1.heap.size ≤ w2.heap.size) (b : Nat) : grw (grw F w w1) w1 w2 b ↔ grw F w w2 b := by
  unfold grw
  constructor
  · rintro ((h | h) | h)
    · exact .inl h
    · exact .inr ⟨h.1, by omega⟩
    · exact .inr ⟨by omega, h.2⟩
  · rintro (h | h)
    · exact .inl (.inl h)
    · by_cases hb : b < w1.heap.size
      · exact .inl (.inr ⟨h.1, hb⟩)
      · exact .inr ⟨by omega, h.2⟩
section
variable {F F' : Nat → Prop} {w w' : World} {g mb : Nat} {vo vt pt : Value} {fs : List FV} {tx : List UInt8} {n : Nat} {D : DataW Unit}
theorem own_keepW {B : Nat} {e : TypeId} {k m : Nat} {v : Value} {xs : List Value} (h : w.ownsRow B e k v m xs) (hk : ∀ c, v.ownBlock = some c → w'.heap[c]? = w.heap[c]?) : w'.ownsRow B e k v m xs := by
  refine ⟨h.1, ?_⟩
  rcases h.2 with h1 | ⟨c, cap, cur, rfl, h1, h2, h3⟩
  · exact .inl h1
  · exact .inr ⟨c, cap, cur, rfl, h1, (hk c rfl).trans h2, h3⟩
theorem ownF_keepW {B : Nat} {e : TypeId} {k m : Nat} {v : Value} {xs : List Value} (h : w.ownsRowF B e k v m xs) (hk : ∀ c, v.ownBlock = some c → w'.heap[c]? = w.heap[c]?) : w'.ownsRowF B e k v m xs := by
  refine ⟨h.1, ?_⟩
  rcases h.2 with h1 | ⟨c, cap, cur, fz, rfl, h1, h2, h3⟩
  · exact .inl h1
  · exact .inr ⟨c, cap, cur, fz, rfl, h1, (hk c rfl).trans h2, h3⟩
theorem map_keepW {k : TypeId} {R : Value → Option (DataW Unit × List MemPlace)} {b m : Nat} {E : DataW Unit} (h : w.ownsMap Tryz.prog k R b m E) (hk : w'.heap[b]? = w.heap[b]?) : w'.ownsMap Tryz.prog k R b m E := by
  obtain ⟨es, clock, h1, h2⟩ := h
  exact ⟨es, clock, hk.trans h1, h2⟩
theorem Bld.role_lt (h : Bld F w g mb vo vt pt fs tx n D) {i c : Nat} (hi : roleB g mb vo vt fs i = some c) : c < w.heap.size := h.lt c (h.sub i c hi)
theorem Bld.kid_role {i : Nat} {f : FV} (hf : fs[i]? = some f) : roleB g mb vo vt fs (i + 4) = f.vk.ownBlock := by
  show (fs[i]?).bind _ = _
  rw [hf]; rfl
theorem Bld.keep (h : Bld F w g mb vo vt pt fs tx n D) (hF : ∀ b, F b → F' b) (hlt : ∀ b, F' b → b < w'.heap.size) (hk : ∀ b, F b → w'.heap[b]? = w.heap[b]?) : Bld F' w' g mb vo vt pt fs tx n D := by
  have hi : ∀ b, idleB F g mb vo vt fs b → idleB F' g mb vo vt fs b := fun b hb => ⟨hF b hb.1, hb.2⟩
  have hr : ∀ i c, roleB g mb vo vt fs i = some c → w'.heap[c]? = w.heap[c]? := fun i c e => hk c (h.sub i c e)
  refine ⟨h.box.keep (hr 0 g rfl), h.ptr, own_keepW h.row (fun c e => hr 2 c e), ownF_keepW h.text (fun c e => hr 3 c e), map_keepW h.map (hr 1 mb rfl), fun f hf => ?_, fun f hf => ?_, h.inj, fun i c e => hF c (h.sub i c e), hlt⟩
  · obtain ⟨xs, h1, h2⟩ := h.kids f hf
    obtain ⟨i, hfi⟩ := List.mem_iff_getElem?.1 hf
    refine ⟨xs, own_keepW h1 (fun c e => hr (i + 4) c (by rw [Bld.kid_role hfi]; exact e)), RepC.mono hi _ _ (RepC.keep (fun b hb => hk b hb.1) _ _ h2)⟩
  · exact ((h.atts f hf).keep (fun b hb => hk b hb.1)).mono hi
theorem Bld.below (h : Bld F w g mb vo vt pt fs tx n D) (hb : Below w.heap.size w w') : Bld F w' g mb vo vt pt fs tx n D :=
  h.keep (fun _ h => h) (fun b hb' => Nat.lt_of_lt_of_le (h.lt b hb') hb.size) (fun b hb' => hb.block b (h.lt b hb'))
theorem Bld.grow (h : Bld F w g mb vo vt pt fs tx n D) (hb : Below w.heap.size w w') : Bld (grw F w w') w' g mb vo vt pt fs tx n D :=
  h.keep (fun _ h => .inl h) (fun b hb' => hb'.elim (fun e => Nat.lt_of_lt_of_le (h.lt b e) hb.size) (fun e => e.2)) (fun b hb' => hb.block b (h.lt b hb'))
theorem Bld.drew (h : Bld F w g mb vo vt pt fs tx n D) : Bld F w.drew g mb vo vt pt fs tx n D := h.keep (fun _ h => h) h.lt (fun _ _ => rfl)
theorem Bld.iff (h : Bld F w g mb vo vt pt fs tx n D) (hF : ∀ b, F b ↔ F' b) : Bld F' w g mb vo vt pt fs tx n D := h.keep (fun b => (hF b).1) (fun b hb => h.lt b ((hF b).2 hb)) (fun _ _ => rfl)
theorem Bld.open_slice (h : Bld F w g mb vo vt pt fs tx n D) (hne : fs ≠ []) : ∃ go cap, vo = .slice (some ⟨go, 0, none⟩) fs.length cap ∧ fs.length ≤ cap ∧ cap ≤ 9223372036854775807 ∧ ∀ j u, (cellsF fs)[j]? = some u → w.cell? ⟨go, j, none⟩ = some u := by
  have hc := fun c hc => h.row.cells (g := c) hc
  rcases h.row.2 with ⟨_, h0⟩ | ⟨go, cap, cur, hv, _, h2, h3, h4, _⟩
  · exact absurd (List.eq_nil_of_length_eq_zero h0) hne
  · subst hv
    unfold maxLen at h4
    refine ⟨go, cap, rfl, h3, by omega, fun j u hu => ?_⟩
    have h5 := hc go rfl j u hu
    rwa [add_plain', Nat.zero_add] at h5
end
set_option maxHeartbeats 2000000 in
set_option maxRecDepth 100000 in
theorem bInner {w : World} {g go m cap : Nat} (k0 : w.cell? ⟨g, 0, none⟩ = some (.slice (some ⟨go, 0, none⟩) (m + 1) cap)) (hA : m ≤ 1000000) :
    Calls Tryz.prog 220 #[.pointer (some ⟨g, 0, none⟩)] w fun e w' => e = .returned (.pointer (some ⟨go, m * 6, none⟩)) ∧ w' = w.drew := by
  have hA0 : (0 : Int) ≤ (m : Int) := by omega
  have hA1 : (m : Int) < (m : Int) + 1 := by omega
  go_enter Tryz.func220, Tryz.ntmps220
  go_wp2_with fail
  go_region
  go_wp2_with fail
  go_ret
  exact ⟨rfl, rfl⟩
theorem turn_inj {r r' : Nat → Option Nat} {k z : Nat} (hinj : ∀ i j c, r i = some c → r j = some c → i = j) (hlt : ∀ i c, r i = some c → c < z) (ho : ∀ i, i ≠ k → r' i = r i) (hk : ∀ c, r' k = some c → r k = some c ∨ z ≤ c) : ∀ i j c, r' i = some c → r' j = some c → i = j := by
  intro i j c hi hj
  by_cases e1 : i = k
  · by_cases e2 : j = k
    · omega
    · rw [ho j e2] at hj
      rw [e1] at hi
      rcases hk c hi with h | h
      · exact e1.trans (hinj k j c h hj)
      · have := hlt j c hj; omega
  · by_cases e2 : j = k
    · rw [ho i e1] at hi
      rw [e2] at hj
      rcases hk c hj with h | h
      · exact (hinj i k c hi h).trans e2.symm
      · have := hlt i c hi; omega
    · rw [ho i e1] at hi
      rw [ho j e2] at hj
      exact hinj i j c hi hj
theorem turn_idle {r r' : Nat → Option Nat} {k z b : Nat} (ho : ∀ i, i ≠ k → r' i = r i) (hk : ∀ c, r' k = some c → r k = some c ∨ z ≤ c) (hb : b < z) (h : ∀ i, r i ≠ some b) : ∀ i, r' i ≠ some b := by
  intro i e
  by_cases e1 : i = k
  · rw [e1] at e
    rcases hk b e with h' | h'
    · exact h k h'
    · omega
  · rw [ho i e1] at e
    exact h i e
theorem turn_sub {F : Nat → Prop} {r r' : Nat → Option Nat} {k : Nat} {w w' : World} (hsub : ∀ i c, r i = some c → F c) (ho : ∀ i, i ≠ k → r' i = r i) (hk : ∀ c, r' k = some c → r k = some c ∨ w.heap.size ≤ c) (hlt : ∀ c, r' k = some c → c < w'.heap.size) : ∀ i c, r' i = some c → grw F w w' c := by
  intro i c e
  by_cases e1 : i = k
  · rw [e1] at e
    rcases hk c e with h | h
    · exact .inl (hsub k c h)
    · exact .inr ⟨h, hlt c e⟩
  · rw [ho i e1] at e
    exact .inl (hsub i c e)
theorem grw_lt {F : Nat → Prop} {w w' : World} (hlt : ∀ b, F b → b < w.heap.size) (hz : w.heap.size ≤ w'.heap.size) : ∀ b, grw F w w' b → b < w'.heap.size := fun b h => h.elim (fun h => Nat.lt_of_lt_of_le (hlt b h) hz) (fun h => h.2)
theorem role_snoc (g mb : Nat) (vo vt : Value) (A : List FV) (f f' : FV) : ∀ i, i ≠ A.length + 4 → roleB g mb vo vt (A ++ [f']) i = roleB g mb vo vt (A ++ [f]) i := by
  intro i hi
  match i with
  | 0 | 1 | 2 | 3 => rfl
  | i + 4 =>
    show ((A ++ [f'])[i]?).bind _ = ((A ++ [f])[i]?).bind _
    congr 1
    rw [List.getElem?_append, List.getElem?_append]
    split
    · rfl
    · rw [List.getElem?_eq_none (by simp; omega), List.getElem?_eq_none (by simp; omega)]
theorem role_last (g mb : Nat) (vo vt : Value) (A : List FV) (f : FV) : roleB g mb vo vt (A ++ [f]) (A.length + 4) = f.vk.ownBlock := by
  show ((A ++ [f])[A.length]?).bind _ = _
  rw [List.getElem?_append_right (Nat.le_refl _), Nat.sub_self]
  rfl
def Carry (I I' : Nat → Prop) (w w' : World) : Prop := ∀ b, I b → I' b ∧ w'.heap[b]? = w.heap[b]?
theorem Carry.rep {I I' : Nat → Prop} {w w' : World} (h : Carry I I' w w') {x : Nd} {va vk : Value} (hr : RepV I w x va vk) : RepV I' w' x va vk := (hr.keep (fun b hb => (h b hb).2)).mono (fun b hb => (h b hb).1)
theorem Carry.trans {I I' I'' : Nat → Prop} {w w' w'' : World} (h : Carry I I' w w') (k : Carry I' I'' w' w'') : Carry I I'' w w'' := fun b hb => ⟨(k b (h b hb).1).1, (k b (h b hb).1).2.trans (h b hb).2⟩
section
variable {F F' : Nat → Prop} {w w' : World} {g mb : Nat} {vo vt pt : Value} {fs : List FV} {tx : List UInt8} {n : Nat} {D : DataW Unit}
theorem Bld.carry_below (h : Bld F w g mb vo vt pt fs tx n D) (hb : Below w.heap.size w w') : Carry (idleB F g mb vo vt fs) (idleB (grw F w w') g mb vo vt fs) w w' := fun b hi => ⟨⟨.inl hi.1, hi.2⟩, hb.block b (h.lt b hi.1)⟩
theorem Bld.kid {A : List FV} {f : FV} {go cap gg c2 : Nat} {x : Nd} {va vk : Value} {xs : List Value} {w2 : World} (h : Bld F w g mb vo vt pt (A ++ [f]) tx n D) (hvo : vo = .slice (some ⟨go, 0, none⟩) (A.length + 1) cap)
    (hx : RepV (idleB F g mb vo vt (A ++ [f])) w x va vk) (hrep : RepC (idleB F g mb vo vt (A ++ [f])) w xs f.x.kids) (hgrow : w.grownBy w2 f.vk.ownBlock)
    (hown : w2.ownsRow 0 41 5 (.slice (some ⟨gg, 0, none⟩) (f.x.kids.length + 1) c2) (f.x.kids.length + 1) (xs ++ x.cells va vk)) (hat : f.vk.ownBlock = some gg ∨ w.heap.size ≤ gg) :
    Bld (grw F w (w2.setCell ⟨go, A.length * 6 + 4, none⟩ (.slice (some ⟨gg, 0, none⟩) (f.x.kids.length + 1) c2))) (w2.setCell ⟨go, A.length * 6 + 4, none⟩ (.slice (some ⟨gg, 0, none⟩) (f.x.kids.length + 1) c2)) g mb vo vt pt (A ++ [⟨M7.wk f.x (f.x.kids ++ [x]), f.va, .slice (some ⟨gg, 0, none⟩) (f.x.kids.length + 1) c2, f.nx⟩]) tx n D ∧
    Out F w (w2.setCell ⟨go, A.length * 6 + 4, none⟩ (.slice (some ⟨gg, 0, none⟩) (f.x.kids.length + 1) c2)) ∧
    Carry (idleB F g mb vo vt (A ++ [f])) (idleB (grw F w (w2.setCell ⟨go, A.length * 6 + 4, none⟩ (.slice (some ⟨gg, 0, none⟩) (f.x.kids.length + 1) c2))) g mb vo vt (A ++ [⟨M7.wk f.x (f.x.kids ++ [x]), f.va, .slice (some ⟨gg, 0, none⟩) (f.x.kids.length + 1) c2, f.nx⟩])) w (w2.setCell ⟨go, A.length * 6 + 4, none⟩ (.slice (some ⟨gg, 0, none⟩) (f.x.kids.length + 1) c2)) := by
  obtain ⟨w3, hw3⟩ : ∃ W, W = w2.setCell ⟨go, A.length * 6 + 4, none⟩ (.slice (some ⟨gg, 0, none⟩) (f.x.kids.length + 1) c2) := ⟨_, rfl⟩
  obtain ⟨f', hf'⟩ : ∃ f' : FV, f' = ⟨M7.wk f.x (f.x.kids ++ [x]), f.va, .slice (some ⟨gg, 0, none⟩) (f.x.kids.length + 1) c2, f.nx⟩ := ⟨_, rfl⟩
  rw [← hw3, ← hf']
  have hz2 : w.heap.size ≤ w2.heap.size := hgrow.size
  have hz3 : w3.heap.size = w2.heap.size := by rw [hw3]; simp
  have rgo : roleB g mb vo vt (A ++ [f]) 2 = some go := by rw [hvo]; rfl
  have rk : roleB g mb vo vt (A ++ [f]) (A.length + 4) = f.vk.ownBlock := role_last ..
  have rk' : roleB g mb vo vt (A ++ [f']) (A.length + 4) = some gg := by rw [role_last, hf']; rfl
  have ho := role_snoc g mb vo vt A f f'
  have hk : ∀ c, roleB g mb vo vt (A ++ [f']) (A.length + 4) = some c → roleB g mb vo vt (A ++ [f]) (A.length + 4) = some c ∨ w.heap.size ≤ c := fun c e => by
    rw [rk'] at e
    cases e
    rw [rk]; exact hat
  have hsame : ∀ b, b < w.heap.size → f.vk.ownBlock ≠ some b → b ≠ go → w3.heap[b]? = w.heap[b]? := fun b hb h1 h2 => by
    rw [hw3, Below.heap_setCell _ _ _ _ h2]
    exact hgrow.block b hb (fun e => h1 e.symm)
  have hsr : ∀ i c, roleB g mb vo vt (A ++ [f]) i = some c → i ≠ 2 → i ≠ A.length + 4 → w3.heap[c]? = w.heap[c]? := fun i c e h2 hk4 =>
    hsame c (h.role_lt e) (fun e2 => hk4 (h.inj _ _ c e (rk.trans e2))) (fun e2 => h2 (h.inj i 2 c e (by rw [rgo, e2])))
  have hgl : gg < w3.heap.size := by have := hown.lt gg rfl; omega
  have hne : gg ≠ go := fun e => by
    rcases hat with h1 | h1
    · have := h.inj _ _ gg (rk.trans h1) (by rw [rgo, e]); omega
    · have := h.role_lt rgo; omega
  have hcar : Carry (idleB F g mb vo vt (A ++ [f])) (idleB (grw F w w3) g mb vo vt (A ++ [f'])) w w3 := fun b hb =>
    ⟨⟨.inl hb.1, turn_idle ho hk (h.lt b hb.1) hb.2⟩, hsame b (h.lt b hb.1) (fun e => hb.2 _ (rk.trans e)) (fun e => hb.2 2 (by rw [rgo, e]))⟩
  have hrow3 : w3.ownsRow 0 189 6 vo (A ++ [f']).length (cellsF (A ++ [f'])) := by
    have r2 : w2.ownsRow 0 189 6 (.slice (some ⟨go, 0, none⟩) (A.length + 1) cap) (A.length + 1) (cellsF (A ++ [f])) := by
      have := own_keepW (w' := w2) h.row (fun c e => hgrow.block c (h.role_lt (i := 2) e) (fun e2 => by have := h.inj 2 (A.length + 4) c e (rk.trans e2.symm); omega))
      rw [hvo] at this
      simpa using this
    have r3 := (r2.stored (A.length * 6 + 4) (.slice (some ⟨gg, 0, none⟩) (f.x.kids.length + 1) c2)).1
    rw [← hw3] at r3
    have e : (cellsF (A ++ [f])).set (A.length * 6 + 4) (.slice (some ⟨gg, 0, none⟩) (f.x.kids.length + 1) c2) = cellsF (A ++ [f']) := by
      rw [cellsF_append, cellsF_append, cellsF_one, cellsF_one, List.set_append_right _ _ (by rw [cellsF_len]; omega), cellsF_len, hf']
      rw [show A.length * 6 + 4 - A.length * 6 = 4 by omega]
      rfl
    rw [e] at r3
    rw [hvo]
    simpa using r3
  refine ⟨⟨h.box.keep (hsr 0 g rfl (by decide) (by omega)), h.ptr, hrow3, ownF_keepW h.text (fun c e => hsr 3 c e (by decide) (by omega)), map_keepW h.map (hsr 1 mb rfl (by decide) (by omega)), fun q hq => ?_, fun q hq => ?_, turn_inj h.inj (fun _ _ e => h.role_lt e) ho hk, turn_sub h.sub ho hk (fun c e => by rw [rk'] at e; cases e; exact hgl), grw_lt h.lt (by omega)⟩, ⟨?_, ?_, ?_, by omega, fun b hb hF => hsame b hb (fun e => hF (h.sub _ b (rk.trans e))) (fun e => hF (by rw [e]; exact h.sub 2 go rgo))⟩, hcar⟩
  · rcases List.mem_append.1 hq with hq | hq
    · obtain ⟨ys, h1, h2⟩ := h.kids q (List.mem_append_left _ hq)
      obtain ⟨i, hi⟩ := List.mem_iff_getElem?.1 hq
      have hil := (List.getElem?_eq_some_iff.1 hi).1
      have hi2 : (A ++ [f])[i]? = some q := by rw [List.getElem?_append_left hil]; exact hi
      refine ⟨ys, own_keepW h1 (fun c e => hsr (i + 4) c (by rw [Bld.kid_role hi2]; exact e) (by omega) (by omega)), RepC.mono (fun b hb => (hcar b hb).1) _ _ (RepC.keep (fun b hb => (hcar b hb).2) _ _ h2)⟩
    · rw [List.mem_singleton.1 hq, hf']
      refine ⟨xs ++ x.cells va vk, ?_, ?_⟩
      · have : (M7.wk f.x (f.x.kids ++ [x])).kids.length = f.x.kids.length + 1 := by show (f.x.kids ++ [x]).length = _; simp
        show w3.ownsRow 0 41 5 _ (M7.wk f.x (f.x.kids ++ [x])).kids.length _
        rw [this]
        exact own_keepW hown (fun c e => by
          have e : gg = c := by simpa [Value.ownBlock] using e
          rw [hw3, Below.heap_setCell _ _ _ _ (by show c ≠ go; omega)])
      · have q1 : RepC (idleB (grw F w w3) g mb vo vt (A ++ [f'])) w3 xs f.x.kids := RepC.mono (fun b hb => (hcar b hb).1) _ _ (RepC.keep (fun b hb => (hcar b hb).2) _ _ hrep)
        have q2 := RepC.append (RepC.single (hcar.rep hx)) _ _ q1
        rw [hf'] at q2
        exact q2
  · have q1 : ∀ p ∈ A ++ [f], Row (idleB (grw F w w3) g mb vo vt (A ++ [f'])) w3 2 p.va p.x.attrs.length (cellsA p.x.attrs) := fun p hp => ((h.atts p hp).keep (fun b hb => (hcar b hb).2)).mono (fun b hb => (hcar b hb).1)
    rcases List.mem_append.1 hq with hq | hq
    · exact q1 q (List.mem_append_left _ hq)
    · have := q1 f (by simp)
      rw [List.mem_singleton.1 hq]
      rw [hf'] at this ⊢
      exact this
  · rw [hw3]; exact hgrow.os
  · rw [hw3]; exact hgrow.tape
  · rw [hw3]; exact hgrow.output
theorem Bld.txt {vt' pt' : Value} {tx' : List UInt8} (h : Bld F w g mb vo vt pt fs tx n D) (hbox : Box w' g 193 [vo, pt', vt', .map (some mb)]) (hp : pt' = .pointer none ∨ pt' = .pointer (some ⟨g, 1, none⟩))
    (hown : w'.ownsRowF 0 5 1 vt' tx'.length (u8s tx')) (hat : ∀ c, vt'.ownBlock = some c → vt.ownBlock = some c ∨ w.heap.size ≤ c) (ht : Turned g vt.ownBlock w w') :
    Bld (grw F w w') w' g mb vo vt' pt' fs tx' n D ∧ Out F w w' ∧ Carry (idleB F g mb vo vt fs) (idleB (grw F w w') g mb vo vt' fs) w w' := by
  obtain ⟨t1, t2, t3, hz, hsame⟩ := ht
  have ho : ∀ i, i ≠ 3 → roleB g mb vo vt' fs i = roleB g mb vo vt fs i := fun i hi => by
    match i, hi with
    | 0, _ | 1, _ | 2, _ => rfl
    | 3, h => exact absurd rfl h
    | i + 4, _ => rfl
  have hk : ∀ c, roleB g mb vo vt' fs 3 = some c → roleB g mb vo vt fs 3 = some c ∨ w.heap.size ≤ c := hat
  have hsr : ∀ i c, roleB g mb vo vt fs i = some c → i ≠ 0 → i ≠ 3 → w'.heap[c]? = w.heap[c]? := fun i c e h0 h3 =>
    hsame c (h.role_lt e) (fun e2 => h0 (h.inj i 0 c e (by rw [e2]; rfl))) (fun e2 => h3 (h.inj i 3 c e e2))
  have hcar : Carry (idleB F g mb vo vt fs) (idleB (grw F w w') g mb vo vt' fs) w w' := fun b hb =>
    ⟨⟨.inl hb.1, turn_idle ho hk (h.lt b hb.1) hb.2⟩, hsame b (h.lt b hb.1) (fun e => hb.2 0 (by rw [e]; rfl)) (fun e => hb.2 3 e)⟩
  refine ⟨⟨hbox, hp, own_keepW h.row (fun c e => hsr 2 c e (by decide) (by decide)), hown, map_keepW h.map (hsr 1 mb rfl (by decide) (by decide)), fun q hq => ?_, fun q hq => ((h.atts q hq).keep (fun b hb => (hcar b hb).2)).mono (fun b hb => (hcar b hb).1), turn_inj h.inj (fun _ _ e => h.role_lt e) ho hk, turn_sub h.sub ho hk (fun c e => (hown.lt c e).2), grw_lt h.lt hz⟩, ⟨t1, t2, t3, hz, fun b hb hF => hsame b hb (fun e => hF (by rw [e]; exact h.sub 0 g rfl)) (fun e => hF (h.sub 3 b e))⟩, hcar⟩
  obtain ⟨ys, h1, h2⟩ := h.kids q hq
  obtain ⟨i, hi⟩ := List.mem_iff_getElem?.1 hq
  exact ⟨ys, own_keepW h1 (fun c e => hsr (i + 4) c (by rw [Bld.kid_role hi]; exact e) (by omega) (by omega)), RepC.mono (fun b hb => (hcar b hb).1) _ _ (RepC.keep (fun b hb => (hcar b hb).2) _ _ h2)⟩
theorem Bld.putm {n' : Nat} {D' : DataW Unit} (h : Bld F w g mb vo vt pt fs tx n D) (hg : w.grownBy w' (some mb)) (hm : w'.ownsMap Tryz.prog 9 (plainElem (H := Unit) Tryz.prog 3) mb n' D') :
    Bld (grw F w w') w' g mb vo vt pt fs tx n' D' ∧ Out F w w' ∧ Carry (idleB F g mb vo vt fs) (idleB (grw F w w') g mb vo vt fs) w w' := by
  have hsr : ∀ i c, roleB g mb vo vt fs i = some c → i ≠ 1 → w'.heap[c]? = w.heap[c]? := fun i c e h1 =>
    hg.block c (h.role_lt e) (fun e2 => h1 (h.inj i 1 c e (by rw [show c = mb from Option.some.inj e2]; rfl)))
  have hcar : Carry (idleB F g mb vo vt fs) (idleB (grw F w w') g mb vo vt fs) w w' := fun b hb =>
    ⟨⟨.inl hb.1, hb.2⟩, hg.block b (h.lt b hb.1) (fun e => hb.2 1 (by rw [show b = mb from Option.some.inj e]; rfl))⟩
  refine ⟨⟨h.box.keep (hsr 0 g rfl (by decide)), h.ptr, own_keepW h.row (fun c e => hsr 2 c e (by decide)), ownF_keepW h.text (fun c e => hsr 3 c e (by decide)), hm, fun q hq => ?_, fun q hq => ((h.atts q hq).keep (fun b hb => (hcar b hb).2)).mono (fun b hb => (hcar b hb).1), h.inj, fun i c e => .inl (h.sub i c e), grw_lt h.lt hg.size⟩, ⟨hg.os, hg.tape, hg.output, hg.size, fun b hb hF => hg.block b hb (fun e => hF (by rw [show b = mb from Option.some.inj e]; exact h.sub 1 mb rfl))⟩, hcar⟩
  obtain ⟨ys, h1, h2⟩ := h.kids q hq
  obtain ⟨i, hi⟩ := List.mem_iff_getElem?.1 hq
  exact ⟨ys, own_keepW h1 (fun c e => hsr (i + 4) c (by rw [Bld.kid_role hi]; exact e) (by omega)), RepC.mono (fun b hb => (hcar b hb).1) _ _ (RepC.keep (fun b hb => (hcar b hb).2) _ _ h2)⟩
theorem Bld.pop {A : List FV} {f : FV} {go cap : Nat} (h : Bld F w g mb vo vt pt (A ++ [f]) tx n D) (hvo : vo = .slice (some ⟨go, 0, none⟩) (A.length + 1) cap) :
    Bld F (w.setCell ⟨g, 0, none⟩ (.slice (some ⟨go, 0, none⟩) A.length cap)) g mb (.slice (some ⟨go, 0, none⟩) A.length cap) vt pt A tx n D ∧
    RepV (idleB F g mb (.slice (some ⟨go, 0, none⟩) A.length cap) vt A) (w.setCell ⟨g, 0, none⟩ (.slice (some ⟨go, 0, none⟩) A.length cap)) f.x f.va f.vk ∧ Out F w (w.setCell ⟨g, 0, none⟩ (.slice (some ⟨go, 0, none⟩) A.length cap)) := by
  obtain ⟨w3, hw3⟩ : ∃ W, W = w.setCell ⟨g, 0, none⟩ (.slice (some ⟨go, 0, none⟩) A.length cap) := ⟨_, rfl⟩
  obtain ⟨vo', hvo'⟩ : ∃ v, v = Value.slice (some ⟨go, 0, none⟩) A.length cap := ⟨_, rfl⟩
  have rk : roleB g mb vo vt (A ++ [f]) (A.length + 4) = f.vk.ownBlock := role_last ..
  have hr : ∀ i c, roleB g mb vo' vt A i = some c → roleB g mb vo vt (A ++ [f]) i = some c ∧ i ≠ A.length + 4 := fun i c e => by
    match i, e with
    | 0, e | 1, e | 3, e => exact ⟨e, by omega⟩
    | 2, e => exact ⟨by rw [hvo]; rw [hvo'] at e; exact e, by omega⟩
    | i + 4, e =>
      have e : (A[i]?).bind (fun f => f.vk.ownBlock) = some c := e
      have hi : i < A.length := by
        rcases Nat.lt_or_ge i A.length with h1 | h1
        · exact h1
        · rw [List.getElem?_eq_none h1] at e; cases e
      refine ⟨?_, by omega⟩
      show ((A ++ [f])[i]?).bind _ = _
      rw [List.getElem?_append_left hi]
      exact e
  have hidle : ∀ b, idleB F g mb vo vt (A ++ [f]) b → idleB F g mb vo' vt A b := fun b hb => ⟨hb.1, fun i e => hb.2 i (hr i b e).1⟩
  have hfar : ∀ c, c ≠ g → w3.heap[c]? = w.heap[c]? := fun c hc => by rw [hw3]; exact Below.heap_setCell _ _ _ _ hc
  have hig : ∀ b, idleB F g mb vo vt (A ++ [f]) b → b ≠ g := fun b hb e => hb.2 0 (by rw [e]; rfl)
  have hbox : Box w3 g 193 [vo', pt, vt, .map (some mb)] := by rw [hw3, hvo']; exact h.box.set 0 _
  have hsr : ∀ i c, roleB g mb vo vt (A ++ [f]) i = some c → i ≠ 0 → w3.heap[c]? = w.heap[c]? := fun i c e h0 => hfar c (fun e2 => h0 (h.inj i 0 c e (by rw [e2]; rfl)))
  have hrow : w3.ownsRow 0 189 6 vo' A.length (cellsF A) := by
    have r := own_keepW (w' := w3) h.row (fun c e => hsr 2 c e (by decide))
    obtain ⟨r1, r2⟩ := r
    refine ⟨cellsF_len A, ?_⟩
    rcases r2 with ⟨e, _⟩ | ⟨c, cp, cur, e, q1, q2, q3, q4, q5, q6⟩
    · rw [hvo] at e; cases e
    · rw [hvo] at e
      injection e with e1 e2 e3
      injection e1 with e1
      injection e1 with e1
      subst e1 e3
      refine .inr ⟨go, cap, cur, hvo', q1, q2, by simp at q3; omega, q4, q5, ?_⟩
      have : (cur.toList.take ((A ++ [f]).length * 6)).take (A.length * 6) = cellsF A := by
        rw [q6, cellsF_append, List.take_append_of_le_length (by rw [cellsF_len]; omega), List.take_of_length_le (by rw [cellsF_len]; omega)]
      rw [List.take_take] at this
      rw [← this]
      congr 1
      simp
  rw [← hvo'] at hw3 ⊢
  rw [← hw3]
  refine ⟨⟨hbox, h.ptr, hrow, ownF_keepW h.text (fun c e => hsr 3 c e (by decide)), map_keepW h.map (hsr 1 mb rfl (by decide)), fun q hq => ?_, fun q hq => ((h.atts q (List.mem_append_left _ hq)).keep (fun b hb => hfar b (hig b hb))).mono hidle, fun i j c e1 e2 => h.inj i j c (hr i c e1).1 (hr j c e2).1, fun i c e => h.sub i c (hr i c e).1, fun b hb => by rw [hw3]; simpa using h.lt b hb⟩, ⟨((h.atts f (by simp)).keep (fun b hb => hfar b (hig b hb))).mono hidle, ?_⟩, ?_⟩
  · obtain ⟨ys, h1, h2⟩ := h.kids q (List.mem_append_left _ hq)
    obtain ⟨i, hi⟩ := List.mem_iff_getElem?.1 hq
    have hi2 : (A ++ [f])[i]? = some q := by rw [List.getElem?_append_left (List.getElem?_eq_some_iff.1 hi).1]; exact hi
    exact ⟨ys, own_keepW h1 (fun c e => hsr (i + 4) c (by rw [Bld.kid_role hi2]; exact e) (by omega)), RepC.mono hidle _ _ (RepC.keep (fun b hb => hfar b (hig b hb)) _ _ h2)⟩
  · obtain ⟨ys, h1, h2⟩ := h.kids f (by simp)
    refine ⟨ys, Row.own (own_keepW h1 (fun c e => hsr (A.length + 4) c (rk.trans e) (by omega))) (fun c e => ⟨h.sub _ c (rk.trans e), fun i e2 => ?_⟩), RepC.mono hidle _ _ (RepC.keep (fun b hb => hfar b (hig b hb)) _ _ h2)⟩
    obtain ⟨e3, e4⟩ := hr i c e2
    exact e4 (h.inj i _ c e3 (rk.trans e))
  · rw [hw3]
    exact ⟨rfl, rfl, rfl, by simp, fun b _ hF => Below.heap_setCell _ _ _ _ (fun e => hF (by rw [e]; exact h.sub 0 g rfl))⟩
theorem Bld.push {f : FV} {gg c2 : Nat} {w2 : World} (h : Bld F w g mb vo vt pt fs tx n D) (hfk : f.vk = .slice none 0 0) (hf0 : f.x.kids = [])
    (hx : RepV (idleB F g mb vo vt fs) w f.x f.va f.vk) (hgrow : w.grownBy w2 vo.ownBlock) (hown : w2.ownsRow 0 189 6 (.slice (some ⟨gg, 0, none⟩) (fs.length + 1) c2) (fs.length + 1) (cellsF fs ++ f.cells)) (hat : vo.ownBlock = some gg ∨ w.heap.size ≤ gg) :
    Bld (grw F w (w2.setCell ⟨g, 0, none⟩ (.slice (some ⟨gg, 0, none⟩) (fs.length + 1) c2))) (w2.setCell ⟨g, 0, none⟩ (.slice (some ⟨gg, 0, none⟩) (fs.length + 1) c2)) g mb (.slice (some ⟨gg, 0, none⟩) (fs.length + 1) c2) vt pt (fs ++ [f]) tx n D ∧
    Out F w (w2.setCell ⟨g, 0, none⟩ (.slice (some ⟨gg, 0, none⟩) (fs.length + 1) c2)) := by
  obtain ⟨vo', hvo'⟩ : ∃ v, v = Value.slice (some ⟨gg, 0, none⟩) (fs.length + 1) c2 := ⟨_, rfl⟩
  rw [← hvo'] at hown ⊢
  obtain ⟨w3, hw3⟩ : ∃ W, W = w2.setCell ⟨g, 0, none⟩ vo' := ⟨_, rfl⟩
  rw [← hw3]
  have hz2 := hgrow.size
  have hz3 : w3.heap.size = w2.heap.size := by rw [hw3]; simp
  have ho : ∀ i, i ≠ 2 → roleB g mb vo' vt (fs ++ [f]) i = roleB g mb vo vt fs i := fun i hi => by
    match i, hi with
    | 0, _ | 1, _ | 3, _ => rfl
    | 2, h => exact absurd rfl h
    | i + 4, _ =>
      show ((fs ++ [f])[i]?).bind _ = (fs[i]?).bind _
      rw [List.getElem?_append]
      split
      · rfl
      · rename_i hi
        rw [List.getElem?_eq_none (l := fs) (by omega)]
        cases hj : [f][i - fs.length]? with
        | none => rfl
        | some q =>
          obtain ⟨_, e⟩ := List.getElem?_eq_some_iff.1 hj
          have : q = f := by
            have := List.mem_of_getElem? hj
            simpa using this
          subst this
          show q.vk.ownBlock = none
          rw [hfk]; rfl
  have r2' : roleB g mb vo' vt (fs ++ [f]) 2 = some gg := by rw [hvo']; rfl
  have hk : ∀ c, roleB g mb vo' vt (fs ++ [f]) 2 = some c → roleB g mb vo vt fs 2 = some c ∨ w.heap.size ≤ c := fun c e => by
    rw [r2'] at e; cases e; exact hat
  have hsame : ∀ b, b < w.heap.size → vo.ownBlock ≠ some b → b ≠ g → w3.heap[b]? = w.heap[b]? := fun b hb h1 h2 => by
    rw [hw3, Below.heap_setCell _ _ _ _ h2]
    exact hgrow.block b hb (fun e => h1 e.symm)
  have hsr : ∀ i c, roleB g mb vo vt fs i = some c → i ≠ 0 → i ≠ 2 → w3.heap[c]? = w.heap[c]? := fun i c e h0 h2 =>
    hsame c (h.role_lt e) (fun e2 => h2 (h.inj i 2 c e e2)) (fun e2 => h0 (h.inj i 0 c e (by rw [e2]; rfl)))
  have hgl : gg < w3.heap.size := by have := hown.lt gg (by rw [hvo']; rfl); omega
  have hne : gg ≠ g := fun e => by
    rcases hat with h1 | h1
    · have := h.inj 2 0 gg h1 (by rw [e]; rfl); omega
    · have := h.role_lt (i := 0) rfl; omega
  have hcar : Carry (idleB F g mb vo vt fs) (idleB (grw F w w3) g mb vo' vt (fs ++ [f])) w w3 := fun b hb =>
    ⟨⟨.inl hb.1, turn_idle ho hk (h.lt b hb.1) hb.2⟩, hsame b (h.lt b hb.1) (fun e => hb.2 2 e) (fun e => hb.2 0 (by rw [e]; rfl))⟩
  have hbox2 : Box w2 g 193 [vo, pt, vt, .map (some mb)] := h.box.keep (hgrow.block g (h.role_lt (i := 0) rfl) (fun e => by have := h.inj 2 0 g e.symm rfl; omega))
  have hbox : Box w3 g 193 [vo', pt, vt, .map (some mb)] := by rw [hw3]; exact hbox2.set 0 _
  have hrow : w3.ownsRow 0 189 6 vo' (fs ++ [f]).length (cellsF (fs ++ [f])) := by
    rw [cellsF_append, cellsF_one, List.length_append]
    exact own_keepW hown (fun c e => by
      have e : gg = c := by rw [hvo'] at e; simpa [Value.ownBlock] using e
      rw [hw3, Below.heap_setCell _ _ _ _ (by show c ≠ g; omega)])
  refine ⟨⟨hbox, h.ptr, hrow, ownF_keepW h.text (fun c e => hsr 3 c e (by decide) (by decide)), map_keepW h.map (hsr 1 mb rfl (by decide) (by decide)), fun q hq => ?_, fun q hq => ?_, turn_inj h.inj (fun _ _ e => h.role_lt e) ho hk, turn_sub h.sub ho hk (fun c e => by rw [r2'] at e; cases e; exact hgl), grw_lt h.lt (by omega)⟩, ⟨by rw [hw3]; exact hgrow.os, by rw [hw3]; exact hgrow.tape, by rw [hw3]; exact hgrow.output, by omega, fun b hb hF => hsame b hb (fun e => hF (h.sub 2 b e)) (fun e => hF (by rw [e]; exact h.sub 0 g rfl))⟩⟩
  · rcases List.mem_append.1 hq with hq | hq
    · obtain ⟨ys, h1, h2⟩ := h.kids q hq
      obtain ⟨i, hi⟩ := List.mem_iff_getElem?.1 hq
      exact ⟨ys, own_keepW h1 (fun c e => hsr (i + 4) c (by rw [Bld.kid_role hi]; exact e) (by omega) (by omega)), RepC.mono (fun b hb => (hcar b hb).1) _ _ (RepC.keep (fun b hb => (hcar b hb).2) _ _ h2)⟩
    · obtain rfl := List.mem_singleton.1 hq
      rw [hfk, hf0]
      exact ⟨[], World.ownsRow_nil _ _ _ _, RepC.nil _ _⟩
  · rcases List.mem_append.1 hq with hq | hq
    · exact ((h.atts q hq).keep (fun b hb => (hcar b hb).2)).mono (fun b hb => (hcar b hb).1)
    · obtain rfl := List.mem_singleton.1 hq
      exact ((hx.at_).keep (fun b hb => (hcar b hb).2)).mono (fun b hb => (hcar b hb).1)
end
end Go.Proofs.YteefodibpjgicaaGreat

namespace Go.Proofs.YteefodibpjgicaaGreat
open Go.RowKit Go.Maps
theorem boxS5 {W : World} {g : Nat} {t : TypeId} {z0 z1 z2 z3 z4 : Value} (h : Box W g t [z0, z1, z2, z3, z4]) (c0 c1 c2 c3 c4 : Value) :
    Box (((((W.setCell ⟨g, 0, none⟩ c0).setCell ⟨g, 1, none⟩ c1).setCell ⟨g, 2, none⟩ c2).setCell ⟨g, 3, none⟩ c3).setCell ⟨g, 4, none⟩ c4) g t [c0, c1, c2, c3, c4] := by
  have := ((((h.set 0 c0).set 1 c1).set 2 c2).set 3 c3).set 4 c4
  simpa only [List.set_cons_succ, List.set_cons_zero] using this
structure Far (g : Nat) (W W' : World) : Prop where
  os : W'.os = W.os
  tape : W'.tape = W.tape
  output : W'.output = W.output
  size : W'.heap.size = W.heap.size
  block : ∀ b, b ≠ g → W'.heap[b]? = W.heap[b]?
theorem farS5 (W : World) (g : Nat) (c0 c1 c2 c3 c4 : Value) : Far g W (((((W.setCell ⟨g, 0, none⟩ c0).setCell ⟨g, 1, none⟩ c1).setCell ⟨g, 2, none⟩ c2).setCell ⟨g, 3, none⟩ c3).setCell ⟨g, 4, none⟩ c4) :=
  have hb : Below 0 W (((((W.setCell ⟨g, 0, none⟩ c0).setCell ⟨g, 1, none⟩ c1).setCell ⟨g, 2, none⟩ c2).setCell ⟨g, 3, none⟩ c3).setCell ⟨g, 4, none⟩ c4) := (((((Below.refl 0 W).setCell (p := ⟨g, 0, none⟩) (Nat.zero_le _) c0).setCell (p := ⟨g, 1, none⟩) (Nat.zero_le _) c1).setCell (p := ⟨g, 2, none⟩) (Nat.zero_le _) c2).setCell (p := ⟨g, 3, none⟩) (Nat.zero_le _) c3).setCell (p := ⟨g, 4, none⟩) (Nat.zero_le _) c4
  ⟨hb.os, hb.tape, hb.output, by simp [World.setCell], fun b hb => by
    rw [Below.heap_setCell _ _ _ _ (by simpa using hb), Below.heap_setCell _ _ _ _ (by simpa using hb), Below.heap_setCell _ _ _ _ (by simpa using hb), Below.heap_setCell _ _ _ _ (by simpa using hb), Below.heap_setCell _ _ _ _ (by simpa using hb)]⟩
section
variable {F F' : Nat → Prop} {w w1 w' : World} {g mb : Nat} {vo vt pt : Value} {fs : List FV} {tx : List UInt8} {n : Nat} {D : DataW Unit}
theorem Bld.widen (h : Bld F w g mb vo vt pt fs tx n D) (h1 : ∀ b, F b → F' b) (h2 : ∀ b, F' b → b < w'.heap.size) (hf : ∀ b, F b → w'.heap[b]? = w.heap[b]?) : Bld F' w' g mb vo vt pt fs tx n D ∧ Carry (idleB F g mb vo vt fs) (idleB F' g mb vo vt fs) w w' :=
  ⟨h.keep h1 h2 hf, fun b hb => ⟨⟨h1 b hb.1, hb.2⟩, hf b hb.1⟩⟩
theorem Bld.text_slice (h : Bld F w g mb vo vt pt fs tx n D) : ∃ a c, vt = .slice a tx.length c := by
  rcases h.text.2 with ⟨rfl, h0⟩ | ⟨c, cap, cur, fz, rfl, _⟩
  · exact ⟨none, 0, by rw [h0]⟩
  · exact ⟨_, _, rfl⟩
theorem Bld.text_ne (h : Bld F w g mb vo vt pt fs tx n D) : vt.ownBlock ≠ some g := fun e => by
  have := h.inj 3 0 g e rfl
  omega
end
abbrev textV (tx : List UInt8) : Value := .agg #[.int .i64 2, .string ⟨#[]⟩, .slice none 0 0, .string ⟨tx.toArray⟩, .slice none 0 0]
set_option maxHeartbeats 4000000 in
set_option maxRecDepth 100000 in
theorem bTold {F : Nat → Prop} {w : World} {g mb : Nat} {vo vt pt : Value} {fs : List FV} {tx : List UInt8} {n : Nat} {D : DataW Unit} (h : Bld F w g mb vo vt pt fs tx n D) (h0 : tx ≠ []) :
    Calls Tryz.prog 209 #[.pointer (some ⟨g, 0, none⟩)] w fun e w' => e = .returned (textV tx) ∧ Bld (grw F w w') w' g mb vo vt pt fs tx n D ∧ Out F w w' ∧ Carry (idleB F g mb vo vt fs) (idleB (grw F w w') g mb vo vt fs) w w' := by
  have hgl := h.box.lt
  have bz := Box.new w 41 [.int .i64 0, .string ⟨#[]⟩, .slice none 0 0, .string ⟨#[]⟩, .slice none 0 0]
  have hb0 : Below w.heap.size w (w.alloc (.cells #[.int .i64 0, .string ⟨#[]⟩, .slice none 0 0, .string ⟨#[]⟩, .slice none 0 0] 41)) := (Below.refl _ w).alloc (Nat.le_refl _) _
  have hs0 : (w.alloc (.cells #[.int .i64 0, .string ⟨#[]⟩, .slice none 0 0, .string ⟨#[]⟩, .slice none 0 0] 41)).heap.size = w.heap.size + 1 := by simp
  change Box (w.alloc (.cells #[.int .i64 0, .string ⟨#[]⟩, .slice none 0 0, .string ⟨#[]⟩, .slice none 0 0] 41)) _ _ _ at bz
  have hB0 := h.below hb0
  have hC0 : Carry (idleB F g mb vo vt fs) (idleB F g mb vo vt fs) w (w.alloc (.cells #[.int .i64 0, .string ⟨#[]⟩, .slice none 0 0, .string ⟨#[]⟩, .slice none 0 0] 41)) := fun b hb => ⟨hb, hb0.block b (h.lt b hb.1)⟩
  have hlt := h.lt
  replace hlt := Lib.hid hlt
  replace hC0 := Lib.hid hC0
  replace hB0 := Lib.hid hB0
  replace bz := Lib.hid bz
  go_enter Tryz.func209, Tryz.ntmps209
  go_wp2_with fail
  obtain ⟨w0, hw0⟩ : ∃ W, w.alloc (.cells #[.int .i64 0, .string ⟨#[]⟩, .slice none 0 0, .string ⟨#[]⟩, .slice none 0 0] 41) = W := ⟨_, rfl⟩
  rw [hw0] at bz hb0 hs0 hB0 hC0 ⊢
  clear hw0
  refine (bxString g _ _ _ _ tx w0 hB0.out.box hB0.out.text hB0.out.text_ne h0).mono ?_
  rintro e w1 ⟨rfl, hbx, htx, hT, hz⟩
  obtain ⟨hB1, hO1, hC1⟩ := hB0.out.txt (pt' := pt) (vt' := vt) hbx hB0.out.ptr htx (fun c hc => .inl hc) hT
  have bz1 := bz.out.keep (w' := w1) (hT.2.2.2.2 w.heap.size (by omega) (by omega) (fun e => by have := hB0.out.role_lt (i := 3) e; have := hlt.out _ (h.sub 3 _ e); omega))
  have q0 := bz1.cell (i := 0) rfl
  have q1 := bz1.cell (i := 1) rfl
  have q2 := bz1.cell (i := 2) rfl
  have q3 := bz1.cell (i := 3) rfl
  have q4 := bz1.cell (i := 4) rfl
  have fz := bz1.free
  have bz2 := boxS5 bz1 (.int .i64 2) (.string ⟨#[]⟩) (.slice none 0 0) (.string ⟨tx.toArray⟩) (.slice none 0 0)
  have hfar := farS5 w1 w.heap.size (.int .i64 2) (.string ⟨#[]⟩) (.slice none 0 0) (.string ⟨tx.toArray⟩) (.slice none 0 0)
  replace hB1 := Lib.hid hB1
  replace hO1 := Lib.hid hO1
  replace hC1 := Lib.hid hC1
  replace hfar := Lib.hid hfar
  replace bz2 := Lib.hid bz2
  clear hbx htx hT
  go_wp2_with fail
  obtain ⟨w2, hw2⟩ : ∃ W, (((((w1.setCell ⟨w.heap.size, 0, none⟩ (.int .i64 2)).setCell ⟨w.heap.size, 1, none⟩ (.string ⟨#[]⟩)).setCell ⟨w.heap.size, 2, none⟩ (.slice none 0 0)).setCell ⟨w.heap.size, 3, none⟩ (.string ⟨tx.toArray⟩)).setCell ⟨w.heap.size, 4, none⟩ (.slice none 0 0)) = W := ⟨_, rfl⟩
  rw [hw2] at bz2 hfar ⊢
  clear hw2 q0 q1 q2 q3 q4 fz
  have q0 := bz2.out.cell (i := 0) rfl
  have q1 := bz2.out.cell (i := 1) rfl
  have q2 := bz2.out.cell (i := 2) rfl
  have q3 := bz2.out.cell (i := 3) rfl
  have q4 := bz2.out.cell (i := 4) rfl
  have hzz := hfar.out.size
  obtain ⟨hBf, hCf⟩ := hB1.out.widen (F' := grw F w w2) (w' := w2) (fun b hb => hb.elim .inl (fun e => .inr ⟨by omega, by omega⟩)) (fun b hb => hb.elim (fun e => by have := hlt.out b e; omega) (fun e => e.2)) (fun b hb => hfar.out.block b (fun e => hb.elim (fun h2 => by have := hlt.out b h2; omega) (fun h2 => by omega)))
  refine bodyPost_ret (v := textV tx) (by simp [results, Tryz.results209, go_sem, q0, q1, q2, q3, q4]) rfl ⟨rfl, hBf, ?_, (hC0.out.trans hC1.out).trans hCf⟩
  exact ⟨hfar.out.os.trans (hO1.out.os.trans hb0.os), hfar.out.tape.trans (hO1.out.tape.trans hb0.tape), hfar.out.output.trans (hO1.out.output.trans hb0.output), by omega, fun b hb hF => (hfar.out.block b (by omega)).trans ((hO1.out.block b (by omega) hF).trans (hb0.block b hb))⟩
section
variable {F F' : Nat → Prop} {w w1 w' : World} {g mb : Nat} {vo vt pt : Value} {fs : List FV} {tx : List UInt8} {n : Nat} {D : DataW Unit}
theorem wk_self (x : Nd) : M7.wk x x.kids = x := by cases x; rfl
theorem wk_wk (x : Nd) (a b : List Nd) : M7.wk (M7.wk x a) b = M7.wk x b := rfl
theorem own_sliceW {w : World} {B : Nat} {e : TypeId} {k m : Nat} {v : Value} {xs : List Value} (h : w.ownsRow B e k v m xs) : ∃ a c, v = .slice a m c := by
  rcases h.2 with ⟨rfl, rfl⟩ | ⟨g, cap, cur, rfl, _⟩
  · exact ⟨none, 0, rfl⟩
  · exact ⟨_, _, rfl⟩
theorem frozen_alloc7 {w : World} {o : Obj} {b j : Nat} (hb : b < w.heap.size) : (w.alloc o).frozen? ⟨b, j, none⟩ = w.frozen? ⟨b, j, none⟩ := World.frozen?_of_block (a := ⟨b, j, none⟩) (Below.heap_alloc w o b hb)
theorem Bld.last_cell {A : List FV} {f : FV} {go cap : Nat} (h : Bld F w g mb vo vt pt (A ++ [f]) tx n D) (hvo : vo = .slice (some ⟨go, 0, none⟩) (A.length + 1) cap) (j : Nat) (u : Value) (hj : j < 6) (hu : f.cells[j]? = some u) : w.cell? ⟨go, A.length * 6 + j, none⟩ = some u ∧ w.frozen? ⟨go, A.length * 6 + j, none⟩ = false := by
  have hr := h.row
  rw [hvo, List.length_append] at hr
  exact own_cell hr _ _ ((cellsF_last A f j hj).trans hu)
theorem Bld.vo_snoc {A : List FV} {f : FV} (h : Bld F w g mb vo vt pt (A ++ [f]) tx n D) : ∃ go cap, vo = .slice (some ⟨go, 0, none⟩) (A.length + 1) cap := by
  obtain ⟨go, cap, e, _⟩ := h.open_slice (by simp)
  exact ⟨go, cap, by rw [e]; simp⟩
theorem Bld.same_grw (h : Bld F w g mb vo vt pt fs tx n D) : Bld (grw F w w) w g mb vo vt pt fs tx n D ∧ Out F w w ∧ Carry (idleB F g mb vo vt fs) (idleB (grw F w w) g mb vo vt fs) w w := by
  obtain ⟨h1, h2⟩ := h.widen (F' := grw F w w) (w' := w) (fun _ h => .inl h) (grw_lt h.lt (Nat.le_refl _)) (fun _ _ => rfl)
  exact ⟨h1, Out.refl _ _, h2⟩
theorem Carry.grw {I : Nat → Prop} {w1 w2 : World} {vo' vt' : Value} {fs' : List FV} (h : Carry I (idleB (grw (grw F w w1) w1 w2) g mb vo' vt' fs') w w2) (h1 : w.heap.size ≤ w1.heap.size) (h2 : w1.heap.size ≤ w2.heap.size) : Carry I (idleB (Go.Proofs.YteefodibpjgicaaGreat.grw F w w2) g mb vo' vt' fs') w w2 := fun b hb => ⟨⟨(grw_grw h1 h2 b).1 (h b hb).1.1, (h b hb).1.2⟩, (h b hb).2⟩
theorem Bld.grw2 {w2 : World} (h : Bld (grw (grw F w w1) w1 w2) w2 g mb vo vt pt fs tx n D) (h1 : w.heap.size ≤ w1.heap.size) (h2 : w1.heap.size ≤ w2.heap.size) : Bld (grw F w w2) w2 g mb vo vt pt fs tx n D := h.iff (grw_grw h1 h2)
end
def BSt (F : Nat → Prop) (w : World) (g mb : Nat) (vo vt : Value) (fs : List FV) (w' : World) (vo' vt' pt' : Value) (fs' : List FV) (tx' : List UInt8) (n' : Nat) (D' : DataW Unit) : Prop :=
  Bld (grw F w w') w' g mb vo' vt' pt' fs' tx' n' D' ∧ Out F w w' ∧ Carry (idleB F g mb vo vt fs) (idleB (grw F w w') g mb vo' vt' fs') w w'
theorem BSt.trans {F : Nat → Prop} {w w1 w2 : World} {g mb : Nat} {vo vt vo1 vt1 pt1 vo2 vt2 pt2 : Value} {fs fs1 fs2 : List FV} {tx1 tx2 : List UInt8} {n1 n2 : Nat} {D1 D2 : DataW Unit} (h : BSt F w g mb vo vt fs w1 vo1 vt1 pt1 fs1 tx1 n1 D1) (k : BSt (grw F w w1) w1 g mb vo1 vt1 fs1 w2 vo2 vt2 pt2 fs2 tx2 n2 D2) : BSt F w g mb vo vt fs w2 vo2 vt2 pt2 fs2 tx2 n2 D2 :=
  ⟨k.1.grw2 h.2.1.size k.2.1.size, h.2.1.trans k.2.1, (h.2.2.trans k.2.2).grw h.2.1.size k.2.1.size⟩
theorem Bld.st_below {F : Nat → Prop} {w w' : World} {g mb : Nat} {vo vt pt : Value} {fs : List FV} {tx : List UInt8} {n : Nat} {D : DataW Unit} (h : Bld F w g mb vo vt pt fs tx n D) (hb : Below w.heap.size w w') : BSt F w g mb vo vt fs w' vo vt pt fs tx n D :=
  ⟨h.grow hb, ⟨hb.os, hb.tape, hb.output, hb.size, fun b hb' _ => hb.block b hb'⟩, h.carry_below hb⟩
set_option maxHeartbeats 8000000 in
set_option maxRecDepth 100000 in
theorem bSettle {F : Nat → Prop} {w : World} {g mb : Nat} {vo vt pt : Value} {A : List FV} {f : FV} {tx : List UInt8} {n : Nat} {D : DataW Unit} (h : Bld F w g mb vo vt pt (A ++ [f]) tx n D) (hA : A.length ≤ 1000000) (hfl : f.x.kids.length ≤ 1000000) :
    Calls Tryz.prog 223 #[.pointer (some ⟨g, 0, none⟩)] w fun e w' => e = .returned (.tuple #[]) ∧ ∃ vt' pt' f', f'.x = M7.wk f.x (f.x.kids ++ M7.endK tx) ∧ f'.nx = f.nx ∧ BSt F w g mb vo vt (A ++ [f]) w' vo vt' pt' (A ++ [f']) [] n D := by
  obtain ⟨go, cap, hvo⟩ := h.vo_snoc
  obtain ⟨at_, ct, hvt⟩ := h.text_slice
  have b2 := h.box.cell (i := 2) rfl
  rw [hvt] at b2
  have hL := bxLen g _ _ _ w b2
  by_cases htx : tx = []
  · have hst : Hid (∃ vt' pt' f', f'.x = M7.wk f.x (f.x.kids ++ M7.endK tx) ∧ f'.nx = f.nx ∧ BSt F w g mb vo vt (A ++ [f]) w vo vt' pt' (A ++ [f']) [] n D) := by
      subst htx
      exact ⟨vt, pt, f, by rw [M7.endK_nil, List.append_nil, wk_self], rfl, h.same_grw⟩
    subst htx
    replace hL := Lib.hid hL
    clear h
    go_enter Tryz.func223, Tryz.ntmps223
    go_wp2_with fail
    refine hL.out.mono ?_
    rintro e w1 ⟨rfl, rfl⟩
    go_wp2_with fail
    exact bodyPost_ret (v := .tuple #[]) (by simp [results, Tryz.results223, go_sem]) rfl ⟨rfl, hst.out⟩
  · have hpos : (tx.length : Int) ≠ 0 := by
      have := List.length_pos_iff.2 htx
      omega
    have hT := Lib.hid (fun W (hW : Bld F W g mb vo vt pt (A ++ [f]) tx n D) => bTold hW htx)
    replace hL := Lib.hid hL
    obtain ⟨j0, hj0, hj00, hj01, hj02⟩ := info_parts infoN
    obtain ⟨xs, o1, rep1⟩ := h.kids f (by simp)
    obtain ⟨ak, ck, hvk⟩ := own_sliceW o1
    go_enter Tryz.func223, Tryz.ntmps223
    go_wp2_with fail
    refine hL.out.mono ?_
    rintro e w1 ⟨rfl, rfl⟩
    have k0 := h.box.cell (i := 0) rfl
    rw [hvo] at k0
    obtain ⟨k4, f4⟩ := h.last_cell hvo 4 f.vk (by decide) rfl
    have hgk : f.vk.ownBlock ≠ some g := fun e => by
      have := h.inj (A.length + 4) 0 g ((role_last ..).trans e) rfl; omega
    have hgok : f.vk.ownBlock ≠ some go := fun e => by
      have := h.inj (A.length + 4) 2 go ((role_last ..).trans e) (by rw [hvo]; rfl); omega
    have hgol : go < w.heap.size := h.role_lt (i := 2) (by rw [hvo]; rfl)
    have hgl := h.box.lt
    have hkk := fun W (hW : Bld (grw F w.drew.drew.drew W) W g mb vo vt pt (A ++ [f]) tx n D) => (hW.last_cell hvo 4 f.vk (by decide) rfl)
    have hk0 : ∀ W (hW : Bld (grw F w.drew.drew.drew W) W g mb vo vt pt (A ++ [f]) tx n D), W.cell? ⟨g, 0, none⟩ = some (.slice (some ⟨go, 0, none⟩) (A.length + 1) cap) := fun W hW => by
      have := hW.box.cell (i := 0) rfl
      rw [hvo] at this
      exact this
    replace hkk := Lib.hid hkk
    replace hk0 := Lib.hid hk0
    replace h := Lib.hid h
    rw [hvk] at k4 hgk hgok hkk
    go_wp2_with fail
    go_region_law
      (first
        | (go_simp; go_at_call 220; refine (bInner (by assumption) hA).mono ?_; rintro e w' ⟨rfl, rfl⟩)
        | (go_simp; go_at_call 209; refine (hT.out _ h.out.drew.drew.drew).mono ?_; rintro e wt ⟨rfl, hBt, hOt, hCt⟩; have t0 := hk0.out _ hBt; obtain ⟨t4, tf⟩ := hkk.out _ hBt; have tz : go < wt.heap.size := Nat.lt_of_lt_of_le hgol hOt.size; obtain ⟨xs, o1, rep1⟩ := hBt.kids f (by simp); rw [hvk] at o1; have tz1 : g < wt.heap.size := hBt.box.lt; replace rep1 := Lib.hid rep1; replace hBt := Lib.hid hBt; replace hOt := Lib.hid hOt; replace hCt := Lib.hid hCt)
        | (refine step_append_lies _ (by rfl) _ _ _ (by rfl) 0 41 j0 _ 5 88 Tryz.underlying25 hj0 hj00 hj01 hj02 rfl (by omega) (.slice ak f.x.kids.length ck) f.x.kids.length xs (by rfl) (o1.alloc _) ⟨wt.heap.size, 0, none⟩ 1 1 [.int .i64 2, .string ⟨#[]⟩, .slice none 0 0, .string ⟨tx.toArray⟩, .slice none 0 0] (by rfl) (by rfl) (World.news_of_block (cs := #[.int .i64 2, .string ⟨#[]⟩, .slice none 0 0, .string ⟨tx.toArray⟩, .slice none 0 0]) (t := 41) (fr := (0, 0)) (heap_alloc_new wt _)) (by simp [Value.oneCell']) (by omega) (by unfold maxLen; omega) (by omega) (by simp) (wt.heap.size + 1) (by simp) ?_; intro gg c2 w5 hown5 hgrow hat hlt; have f5 : w5.frozen? ⟨go, A.length * 6 + 4, none⟩ = false := (hgrow.frozen_far ⟨go, A.length * 6 + 4, none⟩ (Nat.lt_of_lt_of_le tz (by simp)) (Ne.symm hgok)).trans ((frozen_alloc7 tz).trans tf); have k5 : w5.cell? ⟨go, A.length * 6 + 4, none⟩ = some (.slice ak f.x.kids.length ck) := (hgrow.cell_far ⟨go, A.length * 6 + 4, none⟩ (Nat.lt_of_lt_of_le tz (by simp)) (Ne.symm hgok)).trans ((World.cell?_of_block (a := ⟨go, A.length * 6 + 4, none⟩) (Below.heap_alloc wt _ go tz)).trans t4)))
    all_goals
      go_wp2_with fail
      have s0 : BSt F w g mb vo vt (A ++ [f]) wt vo vt pt (A ++ [f]) tx n D := ⟨hBt.out, ⟨hOt.out.os, hOt.out.tape, hOt.out.output, hOt.out.size, hOt.out.block⟩, hCt.out⟩
      have s1 := s0.1.st_below ((Below.refl _ wt).alloc (Nat.le_refl _) (.cells #[.int .i64 2, .string ⟨#[]⟩, .slice none 0 0, .string ⟨tx.toArray⟩, .slice none 0 0] 41))
      have rep2 := RepC.mono (fun b hb => (s1.2.2 b hb).1) _ _ (RepC.keep (fun b hb => (s1.2.2 b hb).2) _ _ rep1.out)
      have s2 := s1.1.kid (x := .mk 2 ⟨#[]⟩ [] ⟨tx.toArray⟩ []) (va := .slice none 0 0) (vk := .slice none 0 0) hvo ⟨Row.nil _ _ _, RepN.nil _ _⟩ rep2 (by rw [hvk]; exact hgrow) hown5 (by
        rw [hvk]
        rcases hat with h1 | h1
        · exact .inl h1
        · exact .inr (by rw [h1]; simp))
      have s3 : BSt F w g mb vo vt (A ++ [f]) _ vo vt pt _ tx n D := s0.trans (s1.trans s2)
      clear s0 s1 s2 rep2
      obtain ⟨w6, hw6⟩ : ∃ W, w5.setCell ⟨go, A.length * 6 + 4, none⟩ (.slice (some ⟨gg, 0, none⟩) (f.x.kids.length + 1) c2) = W := ⟨_, rfl⟩
      rw [hw6] at s3 ⊢
      refine (bxReset g _ _ _ _ w6 s3.1.box).mono ?_
      rintro e w7 ⟨rfl, hw7⟩
      have bx7 := (s3.1.box.set 1 (.pointer none)).set 2 (.slice none 0 0)
      simp only [List.set_cons_succ, List.set_cons_zero] at bx7
      rw [← hw7] at bx7
      have s4 := s3.1.txt (w' := w7) (tx' := []) bx7 (.inl rfl) (World.ownsRowF_nil _ _ _ _) (fun c hc => by cases hc) ⟨by rw [hw7]; rfl, by rw [hw7]; rfl, by rw [hw7]; rfl, by rw [hw7]; simp, fun b hb hg _ => by rw [hw7, Below.heap_setCell _ _ _ _ hg, Below.heap_setCell _ _ _ _ hg]⟩
      have s5 : BSt F w g mb vo vt (A ++ [f]) w7 vo (.slice none 0 0) (.pointer none) _ [] n D := s3.trans s4
      replace s5 := Lib.hid s5
      clear s3 s4 bx7 hw7 hw6 hgrow hown5 hat hBt hOt hCt rep1 o1 hT hL hkk hk0 h
      go_wp2_with fail
      go_end0
      exact ⟨rfl, _, _, ⟨M7.wk f.x (f.x.kids ++ [.mk 2 ⟨#[]⟩ [] ⟨tx.toArray⟩ []]), f.va, _, f.nx⟩, by rw [M7.endK_cons htx], rfl, s5.out⟩
theorem BSt.start {F : Nat → Prop} {w w0 w1 : World} {g mb : Nat} {vo vt vo1 vt1 pt1 : Value} {fs fs1 : List FV} {tx1 : List UInt8} {n1 : Nat} {D1 : DataW Unit} (hb : Below w.heap.size w w0) (hlt : ∀ b, F b → b < w.heap.size) (h : BSt F w0 g mb vo vt fs w1 vo1 vt1 pt1 fs1 tx1 n1 D1) : BSt F w g mb vo vt fs w1 vo1 vt1 pt1 fs1 tx1 n1 D1 := by
  obtain ⟨h1, h2, h3⟩ := h
  have hz := hb.size
  have hz1 := h2.size
  have hF : ∀ b, grw F w0 w1 b → grw F w w1 b := fun b hb => hb.elim .inl (fun e => .inr ⟨by omega, e.2⟩)
  refine ⟨h1.keep hF (grw_lt hlt (by omega)) (fun _ _ => rfl), ⟨h2.os.trans hb.os, h2.tape.trans hb.tape, h2.output.trans hb.output, by omega, fun b hb' hF' => (h2.block b (by omega) hF').trans (hb.block b hb')⟩, fun b hb' => ?_⟩
  obtain ⟨q1, q2⟩ := h3 b hb'
  exact ⟨⟨hF b q1.1, q1.2⟩, q2.trans (hb.block b (hlt b hb'.1))⟩
set_option maxHeartbeats 8000000 in
set_option maxRecDepth 100000 in
theorem bAdd {F : Nat → Prop} {w : World} {g mb : Nat} {vo vt pt : Value} {A : List FV} {f : FV} {tx : List UInt8} {n : Nat} {D : DataW Unit} (h : Bld F w g mb vo vt pt (A ++ [f]) tx n D) (hA : A.length ≤ 1000000) (hfl : f.x.kids.length ≤ 1000000) {x : Nd} {va vk : Value} (hx : RepV (idleB F g mb vo vt (A ++ [f])) w x va vk) :
    Calls Tryz.prog 222 #[.pointer (some ⟨g, 0, none⟩), x.val va vk] w fun e w' => e = .returned (.tuple #[]) ∧ ∃ vt' pt' f', f'.x = M7.wk f.x (f.x.kids ++ M7.endK tx ++ [x]) ∧ f'.nx = f.nx ∧ BSt F w g mb vo vt (A ++ [f]) w' vo vt' pt' (A ++ [f']) [] n D := by
  obtain ⟨go, cap, hvo⟩ := h.vo_snoc
  obtain ⟨j0, hj0, hj00, hj01, hj02⟩ := info_parts infoN
  obtain ⟨aa, ca, hva⟩ := hx.at_.slice
  obtain ⟨akk, ckk, hvkk⟩ := hx.kids.slice
  have bz := Box.new w 41 [.int .i64 x.kind, .string x.name, va, .string x.text, vk]
  have hb0 : Below w.heap.size w (w.alloc (.cells #[.int .i64 x.kind, .string x.name, va, .string x.text, vk] 41)) := (Below.refl _ w).alloc (Nat.le_refl _) _
  have hs0 : (w.alloc (.cells #[.int .i64 x.kind, .string x.name, va, .string x.text, vk] 41)).heap.size = w.heap.size + 1 := by simp
  change Box (w.alloc (.cells #[.int .i64 x.kind, .string x.name, va, .string x.text, vk] 41)) _ _ _ at bz
  have hB0 := h.below hb0
  have hx0 : RepV (idleB F g mb vo vt (A ++ [f])) (w.alloc (.cells #[.int .i64 x.kind, .string x.name, va, .string x.text, vk] 41)) x va vk := hx.keep (fun b hb => hb0.block b (h.lt b hb.1))
  have hlt := h.lt
  have hone : ∀ u ∈ ([.int .i64 x.kind, .string x.name, va, .string x.text, vk] : List Value), u.oneCell' = true := by
    rw [hva, hvkk]; simp [Value.oneCell']
  clear hva hvkk
  replace hlt := Lib.hid hlt
  replace hB0 := Lib.hid hB0
  replace hx0 := Lib.hid hx0
  replace bz := Lib.hid bz
  go_enter Tryz.func222, Tryz.ntmps222
  go_wp2_with fail
  obtain ⟨w0, hw0⟩ : ∃ W, w.alloc (.cells #[.int .i64 x.kind, .string x.name, va, .string x.text, vk] 41) = W := ⟨_, rfl⟩
  rw [hw0] at bz hb0 hs0 hB0 hx0 ⊢
  clear hw0
  refine (bSettle hB0.out hA hfl).mono ?_
  rintro e w1 ⟨rfl, vt1, pt1, f1, hf1x, hf1n, s0⟩
  obtain ⟨xs, o1, rep1⟩ := s0.1.kids f1 (by simp)
  obtain ⟨ak, ck, hvk⟩ := own_sliceW o1
  have k0 := s0.1.box.cell (i := 0) rfl
  rw [hvo] at k0
  obtain ⟨k4, f4⟩ := s0.1.last_cell hvo 4 f1.vk (by decide) rfl
  have hgk : f1.vk.ownBlock ≠ some g := fun e => by
    have := s0.1.inj (A.length + 4) 0 g ((role_last ..).trans e) rfl; omega
  have hgok : f1.vk.ownBlock ≠ some go := fun e => by
    have := s0.1.inj (A.length + 4) 2 go ((role_last ..).trans e) (by rw [hvo]; rfl); omega
  have hgol : go < w1.heap.size := s0.1.role_lt (i := 2) (by rw [hvo]; rfl)
  have hgl := s0.1.box.lt
  have hz1 := s0.2.1.size
  have bz1 := bz.out.keep (w' := w1) (s0.2.1.block _ (by omega) (fun e => by have := hlt.out _ e; omega))
  have p0 := bz1.cell (i := 0) rfl
  have p1 := bz1.cell (i := 1) rfl
  have p2 := bz1.cell (i := 2) rfl
  have p3 := bz1.cell (i := 3) rfl
  have p4 := bz1.cell (i := 4) rfl
  have hfl1 : f1.x.kids.length ≤ 1000001 := by
    rw [hf1x]
    show (f.x.kids ++ M7.endK tx).length ≤ _
    rw [List.length_append]
    have : (M7.endK tx).length ≤ 1 := by unfold M7.endK; split <;> simp
    omega
  rw [hvk] at k4 hgk hgok
  have o1' := o1
  rw [hvk] at o1'
  replace s0 := Lib.hid s0
  replace rep1 := Lib.hid rep1
  replace hf1x := Lib.hid hf1x
  clear bz1 bz h o1 hx
  go_wp2_with fail
  go_region_law
    (first
      | (go_simp; go_at_call 220; refine (bInner (go := go) (cap := cap) (by first | assumption | (simp [*, World.cell?_alloc_some])) hA).mono ?_; rintro e w' ⟨rfl, rfl⟩)
      | (refine step_append_lies _ (by rfl) _ _ _ (by rfl) 0 41 j0 _ 5 88 Tryz.underlying25 hj0 hj00 hj01 hj02 rfl (by omega) (.slice ak f1.x.kids.length ck) f1.x.kids.length xs (by rfl) ((o1'.alloc _).drew.drew.drew) ⟨w1.heap.size, 0, none⟩ 1 1 [.int .i64 x.kind, .string x.name, va, .string x.text, vk] (by rfl) (by rfl) (World.news_of_block (cs := #[.int .i64 x.kind, .string x.name, va, .string x.text, vk]) (t := 41) (fr := (0, 0)) (heap_alloc_new w1 _)) hone (by omega) (by unfold maxLen; omega) (by omega) (by simp) (w1.heap.size + 1) (by simp) ?_; intro gg c2 w5 hown5 hgrow hat hlt5; have f5 : w5.frozen? ⟨go, A.length * 6 + 4, none⟩ = false := (hgrow.frozen_far ⟨go, A.length * 6 + 4, none⟩ (Nat.lt_of_lt_of_le hgol (by simp)) (Ne.symm hgok)).trans ((frozen_alloc7 hgol).trans f4); have k5 : w5.cell? ⟨go, A.length * 6 + 4, none⟩ = some (.slice ak f1.x.kids.length ck) := (hgrow.cell_far ⟨go, A.length * 6 + 4, none⟩ (Nat.lt_of_lt_of_le hgol (by simp)) (Ne.symm hgok)).trans ((World.cell?_of_block (a := ⟨go, A.length * 6 + 4, none⟩) (Below.heap_alloc w1 _ go hgol)).trans k4)))
  all_goals
    go_wp2_with fail
    have hb1 : Below w1.heap.size w1 (w1.alloc (.cells #[.int .i64 x.kind, .string x.name, va, .string x.text, vk] 41)) := (Below.refl _ w1).alloc (Nat.le_refl _) _
    have s1 := s0.out.1.st_below hb1
    have rep2 := RepC.mono (fun b hb => (s1.2.2 b hb).1) _ _ (RepC.keep (fun b hb => (s1.2.2 b hb).2) _ _ rep1.out)
    have s2 := s1.1.kid (x := x) (va := va) (vk := vk) hvo ((s0.out.2.2.trans s1.2.2).rep hx0.out) rep2 (w2 := w5) (by rw [hvk]; exact ⟨hgrow.os, hgrow.tape, hgrow.output, hgrow.size, hgrow.block⟩) hown5 (by
      rw [hvk]
      rcases hat with h1 | h1
      · exact .inl h1
      · exact .inr (by rw [h1]; simp))
    have s3 : BSt F w g mb vo vt (A ++ [f]) _ vo vt1 pt1 _ [] n D := (s0.out.trans (s1.trans s2)).start hb0 hlt.out
    replace s3 := Lib.hid s3
    clear s1 s2 rep2 hgrow hown5 hat s0 rep1 o1'
    go_end0
    exact ⟨rfl, _, _, ⟨M7.wk f1.x (f1.x.kids ++ [x]), f1.va, _, f1.nx⟩, by rw [hf1x.out]; rfl, hf1n, s3.out⟩
end Go.Proofs.YteefodibpjgicaaGreat

namespace Go.Proofs.YteefodibpjgicaaGreat
open Go.RowKit Go.Maps
theorem Bld.popS {F : Nat → Prop} {w : World} {g mb : Nat} {vo vt pt : Value} {A : List FV} {f : FV} {go cap : Nat} {tx : List UInt8} {n : Nat} {D : DataW Unit} (h : Bld F w g mb vo vt pt (A ++ [f]) tx n D) (hvo : vo = .slice (some ⟨go, 0, none⟩) (A.length + 1) cap) :
    BSt F w g mb vo vt (A ++ [f]) (w.setCell ⟨g, 0, none⟩ (.slice (some ⟨go, 0, none⟩) A.length cap)).drew (.slice (some ⟨go, 0, none⟩) A.length cap) vt pt A tx n D ∧
    RepV (idleB (grw F w (w.setCell ⟨g, 0, none⟩ (.slice (some ⟨go, 0, none⟩) A.length cap)).drew) g mb (.slice (some ⟨go, 0, none⟩) A.length cap) vt A) (w.setCell ⟨g, 0, none⟩ (.slice (some ⟨go, 0, none⟩) A.length cap)).drew f.x f.va f.vk := by
  obtain ⟨h1, h2, h3⟩ := h.pop hvo
  have hz : (w.setCell ⟨g, 0, none⟩ (.slice (some ⟨go, 0, none⟩) A.length cap)).drew.heap.size = w.heap.size := by simp
  have hF : ∀ b, F b → grw F w (w.setCell ⟨g, 0, none⟩ (.slice (some ⟨go, 0, none⟩) A.length cap)).drew b := fun b hb => .inl hb
  refine ⟨⟨h1.keep hF (grw_lt h.lt (by omega)) (fun _ _ => rfl), ⟨h3.os, h3.tape, h3.output, h3.size, h3.block⟩, fun b hb => ?_⟩, RepV.mono (RepV.keep (w' := (w.setCell ⟨g, 0, none⟩ (.slice (some ⟨go, 0, none⟩) A.length cap)).drew) h2 (fun _ _ => rfl)) (fun b hb => ⟨hF b hb.1, hb.2⟩)⟩
  refine ⟨⟨.inl hb.1, fun i e => ?_⟩, Below.heap_setCell _ _ _ _ (fun e => hb.2 0 (by rw [show b = g from e]; rfl))⟩
  match i, e with
  | 0, e => exact hb.2 0 e
  | 1, e => exact hb.2 1 e
  | 3, e => exact hb.2 3 e
  | 2, e => exact hb.2 2 (by rw [hvo]; exact e)
  | i + 4, e =>
    have e : (A[i]?).bind (fun f => f.vk.ownBlock) = some b := e
    have hi : i < A.length := by
      rcases Nat.lt_or_ge i A.length with h1 | h1
      · exact h1
      · rw [List.getElem?_eq_none h1] at e; cases e
    refine hb.2 (i + 4) ?_
    show ((A ++ [f])[i]?).bind _ = _
    rw [List.getElem?_append_left hi]
    exact e
theorem keySS : Keyed Tryz.prog 9 := string_keyed Tryz.underlying9
def keyN (s : ByteArray) : Lit := .string s.data.toList
def shutD (f : FV) (D : DataW Unit) : DataW Unit := if f.nx = 0 then D.del (keyN f.x.name) else D.put (keyN f.x.name) (.lit (.int .i64 (f.nx : Int)))
set_option maxHeartbeats 8000000 in
set_option maxRecDepth 100000 in
theorem bShut {F : Nat → Prop} {w : World} {g mb : Nat} {vo vt pt : Value} {A : List FV} {p f : FV} {tx : List UInt8} {n : Nat} {D : DataW Unit} (h : Bld F w g mb vo vt pt ((A ++ [p]) ++ [f]) tx n D) (hA : A.length ≤ 900000) (hfl : f.x.kids.length ≤ 900000) (hpl : p.x.kids.length ≤ 900000) (hnm : f.x.name.size ≤ 1073741824) (hnx : f.nx ≤ 1000000) (hn : n ≤ 1000000) :
    Calls Tryz.prog 221 #[.pointer (some ⟨g, 0, none⟩)] w fun e w' => e = .returned (.tuple #[]) ∧ ∃ vo' vt' pt' p' n', p'.x = M7.wk p.x (p.x.kids ++ [M7.wk f.x (f.x.kids ++ M7.endK tx)]) ∧ p'.nx = p.nx ∧ n' ≤ n + 1 ∧ BSt F w g mb vo vt ((A ++ [p]) ++ [f]) w' vo' vt' pt' (A ++ [p']) [] n' (shutD f D) := by
  obtain ⟨go, cap, hvo⟩ := h.vo_snoc
  have hll : (A ++ [p]).length = A.length + 1 := by simp
  rw [hll] at hvo
  have hlt := h.lt
  replace hlt := Lib.hid hlt
  go_enter Tryz.func221, Tryz.ntmps221
  go_wp2_with fail
  refine (bSettle h (by omega) (by omega)).mono ?_
  rintro e w1 ⟨rfl, vt1, pt1, f1, hf1x, hf1n, s0⟩
  obtain ⟨x1, va1, vk1, nx1⟩ := f1
  obtain ⟨aa, ca, ea⟩ := (s0.1.atts ⟨x1, va1, vk1, nx1⟩ (by simp)).slice
  obtain ⟨ys, o1, -⟩ := s0.1.kids ⟨x1, va1, vk1, nx1⟩ (by simp)
  obtain ⟨ak, ck, ek⟩ := own_sliceW o1
  change va1 = .slice aa x1.attrs.length ca at ea
  change vk1 = .slice ak x1.kids.length ck at ek
  subst ea ek
  clear o1
  have k0 := s0.1.box.cell (i := 0) rfl
  have fg := s0.1.box.free
  have k2 := s0.1.box.cell (i := 3) rfl
  rw [hvo] at k0
  have hvo1 : vo = .slice (some ⟨go, 0, none⟩) ((A ++ [p]).length + 1) cap := by rw [hvo, hll]
  obtain ⟨c0, -⟩ := s0.1.last_cell hvo1 0 (.int .i64 x1.kind) (by decide) rfl
  obtain ⟨c1, -⟩ := s0.1.last_cell hvo1 1 (.string x1.name) (by decide) rfl
  obtain ⟨c2, -⟩ := s0.1.last_cell hvo1 2 (.slice aa x1.attrs.length ca) (by decide) rfl
  obtain ⟨c3, -⟩ := s0.1.last_cell hvo1 3 (.string x1.text) (by decide) rfl
  obtain ⟨c4, -⟩ := s0.1.last_cell hvo1 4 (.slice ak x1.kids.length ck) (by decide) rfl
  obtain ⟨c5, -⟩ := s0.1.last_cell hvo1 5 (.int .i64 (nx1 : Int)) (by decide) rfl
  rw [hll] at c0 c1 c2 c3 c4 c5
  simp only [Nat.add_zero] at c0
  replace s0 := Lib.hid s0
  change x1 = _ at hf1x
  change nx1 = f.nx at hf1n
  replace hf1x := Lib.hid hf1x
  replace hf1n := Lib.hid hf1n
  clear h
  have hI := Lib.hid (bInner (go := go) (cap := cap) k0 (by omega))
  go_wp2_with fail
  refine hI.out.mono ?_
  rintro e w2 ⟨rfl, rfl⟩
  go_upto_region 2 with fail
  have hb1 : Below w1.heap.size w1 (w1.alloc (.cells #[.int .i64 x1.kind, .string x1.name, .slice aa x1.attrs.length ca, .string x1.text, .slice ak x1.kids.length ck, .int .i64 (nx1 : Int)] 189)).drew := ((Below.refl _ w1).alloc (Nat.le_refl _) _).drew
  have bz := Box.new w1 189 [.int .i64 x1.kind, .string x1.name, .slice aa x1.attrs.length ca, .string x1.text, .slice ak x1.kids.length ck, .int .i64 (nx1 : Int)]
  change Box (w1.alloc (.cells #[.int .i64 x1.kind, .string x1.name, .slice aa x1.attrs.length ca, .string x1.text, .slice ak x1.kids.length ck, .int .i64 (nx1 : Int)] 189)).drew _ _ _ at bz
  obtain ⟨w2, hw2⟩ : ∃ W, (w1.alloc (.cells #[.int .i64 x1.kind, .string x1.name, .slice aa x1.attrs.length ca, .string x1.text, .slice ak x1.kids.length ck, .int .i64 (nx1 : Int)] 189)).drew = W := ⟨_, rfl⟩
  have hs2 : w2.heap.size = w1.heap.size + 1 := by rw [← hw2]; simp
  rw [hw2] at hb1 bz ⊢
  have s1 := s0.out.trans (s0.out.1.st_below hb1)
  clear k0 fg k2 c0 c1 c2 c3 c4 c5 hI hw2
  have k0 := s1.1.box.cell (i := 0) rfl
  have fg := s1.1.box.free
  rw [hvo] at k0
  obtain ⟨hcl, hcm⟩ : A.length + 1 + 1 ≤ cap ∧ cap ≤ 9223372036854775807 := by
    obtain ⟨go', cap', e, q1, q2, _⟩ := s1.1.open_slice (by simp)
    rw [hvo] at e
    injection e with _ _ e3
    subst e3
    simp at q1
    exact ⟨by omega, q2⟩
  have hA0 : (0 : Int) ≤ (A.length : Int) + 1 := by omega
  have hA1 : (A.length : Int) + 1 ≤ (cap : Int) := by omega
  have hA2 : (A.length : Int) + 1 + 1 ≤ (cap : Int) := by omega
  obtain ⟨s3, hx3⟩ := s1.1.popS hvo1
  rw [hll] at s3 hx3
  have hgl1 : w1.heap.size ≠ g := by
    have := s0.out.1.box.lt; omega
  have bz3 : Box (w2.setCell ⟨g, 0, none⟩ (.slice (some ⟨go, 0, none⟩) (A.length + 1) cap)).drew w1.heap.size 189 [.int .i64 x1.kind, .string x1.name, .slice aa x1.attrs.length ca, .string x1.text, .slice ak x1.kids.length ck, .int .i64 (nx1 : Int)] := bz.far (p := ⟨g, 0, none⟩) hgl1 _
  have hx3 := RepV.mono hx3 (fun b hb => (⟨(grw_grw s1.2.1.size s3.2.1.size b).1 hb.1, hb.2⟩ : idleB (grw F w _) _ _ _ _ _ b))
  have s3' := s1.trans s3
  clear s3 bz
  replace s3' := Lib.hid s3'
  replace hx3 := Lib.hid hx3
  replace s1 := Lib.hid s1
  replace s0 := Lib.hid s0
  replace bz3 := Lib.hid bz3
  go_region
  obtain ⟨w3, hw3⟩ : ∃ W, (w2.setCell ⟨g, 0, none⟩ (.slice (some ⟨go, 0, none⟩) (A.length + 1) cap)).drew = W := ⟨_, rfl⟩
  rw [hw3] at s3' hx3 bz3 ⊢
  clear hw3 s1 k0 fg hs2 hb1
  have k3 := s3'.out.1.box.cell (i := 3) rfl
  have z0 := bz3.out.cell (i := 0) rfl
  have z1 := bz3.out.cell (i := 1) rfl
  have z2 := bz3.out.cell (i := 2) rfl
  have z3 := bz3.out.cell (i := 3) rfl
  have z4 := bz3.out.cell (i := 4) rfl
  have z5 := bz3.out.cell (i := 5) rfl
  have hnm1 : x1.name.size ≤ maxLen := by
    rw [hf1x.out]
    show f.x.name.size ≤ _
    unfold maxLen; omega
  have hkey : keyOf Tryz.prog 9 (.string x1.name) = some (keyN x1.name) := WideMaps.keyOf_string_mk Tryz.underlying9 (s := x1.name) hnm1
  have hn63 : n < maxLen := by unfold maxLen; omega
  have hmb : mb < w1.heap.size := s0.out.1.role_lt (i := 1) rfl
  have hz3 : w1.heap.size < w3.heap.size := bz3.out.lt
  by_cases h0 : nx1 = 0
  · obtain ⟨w4, hrun, own4, turn4⟩ := s3'.out.1.drew.map.drop keySS Tryz.underlying191 hkey 0
    have hg4 : w3.grownBy w4 (some mb) := ⟨turn4.grown.os, turn4.grown.tape, turn4.grown.output, turn4.grown.size, turn4.grown.block⟩
    have s4 := s3'.out.trans (show BSt (grw F w w3) w3 g mb _ vt1 _ w4 _ vt1 pt1 _ [] n (D.del (keyN x1.name)) from (s3'.out.1.putm hg4 own4))
    have hx4 := (s3'.out.1.putm hg4 own4).2.2.rep hx3.out
    have bz4 := bz3.out.keep (hg4.block w1.heap.size hz3 (fun e => by cases e; omega))
    have hx4 := RepV.mono hx4 (fun b hb => (⟨(grw_grw s3'.out.2.1.size hg4.size b).1 hb.1, hb.2⟩ : idleB (grw F w w4) _ _ _ _ _ b))
    have hn4 : n ≤ n + 1 := by omega
    have hD : shutD f D = D.del (keyN x1.name) := by
      unfold shutD
      rw [if_pos (by rw [← hf1n.out]; exact h0), hf1x.out]; rfl
    subst h0
    replace s4 := Lib.hid s4
    replace hx4 := Lib.hid hx4
    replace bz4 := Lib.hid bz4
    replace hD := Lib.hid hD
    replace hf1n := Lib.hid hf1n
    clear own4 turn4 hg4 bz3 s3'
    go_wp2_with fail
    go_region
    clear z0 z1 z2 z3 z4 z5 k3 hrun
    have z0 := bz4.out.cell (i := 0) rfl
    have z1 := bz4.out.cell (i := 1) rfl
    have z2 := bz4.out.cell (i := 2) rfl
    have z3 := bz4.out.cell (i := 3) rfl
    have z4 := bz4.out.cell (i := 4) rfl
    go_wp2_with fail
    refine (bAdd s4.out.1 (by omega) (by omega) hx4.out).mono ?_
    rintro e w5 ⟨rfl, vt5, pt5, p', hp'x, hp'n, s5⟩
    have s6 := s4.out.trans s5
    replace s6 := Lib.hid s6
    clear s4 s5 hx4
    replace hp'x := Lib.hid hp'x
    replace hp'n := Lib.hid hp'n
    go_wp2_with fail
    go_end0
    exact ⟨rfl, _, _, _, p', _, by rw [hp'x.out, M7.endK_nil, List.append_nil, hf1x.out], hp'n.out, hn4, by rw [hD.out]; exact s6.out⟩
  · have hni : ((nx1 : Int) == 0) = false := beq_eq_false_iff_ne.2 (by omega)
    have hnw : (Lit.int .i64 (nx1 : Int)).wf = true := by
      have h2 : IntKind.i64.min = -9223372036854775808 := rfl
      have h3 : IntKind.i64.max = 9223372036854775807 := rfl
      have : nx1 = f.nx := hf1n.out
      simp only [Lit.wf, Bool.and_eq_true, decide_eq_true_eq, h2, h3]
      omega
    obtain ⟨w4, hrun, own4, turn4⟩ := s3'.out.1.drew.map.store keySS Tryz.underlying191 hn63 hkey (plainElem_int (H := Unit) Tryz.underlying3 hnw)
    have hg4 : w3.grownBy w4 (some mb) := ⟨turn4.grown.os, turn4.grown.tape, turn4.grown.output, turn4.grown.size, turn4.grown.block⟩
    have s4 := s3'.out.trans (show BSt (grw F w w3) w3 g mb _ vt1 _ w4 _ vt1 pt1 _ [] (n + 1) (D.put (keyN x1.name) (.lit (.int .i64 (nx1 : Int)))) from (s3'.out.1.putm hg4 own4))
    have hx4 := (s3'.out.1.putm hg4 own4).2.2.rep hx3.out
    have bz4 := bz3.out.keep (hg4.block w1.heap.size hz3 (fun e => by cases e; omega))
    have hx4 := RepV.mono hx4 (fun b hb => (⟨(grw_grw s3'.out.2.1.size hg4.size b).1 hb.1, hb.2⟩ : idleB (grw F w w4) _ _ _ _ _ b))
    have hn4 : n + 1 ≤ n + 1 := by omega
    have hD : shutD f D = D.put (keyN x1.name) (.lit (.int .i64 (nx1 : Int))) := by
      unfold shutD
      rw [if_neg (by rw [← hf1n.out]; exact h0), hf1x.out, ← hf1n.out]; rfl
    replace s4 := Lib.hid s4
    replace hx4 := Lib.hid hx4
    replace bz4 := Lib.hid bz4
    replace hD := Lib.hid hD
    replace hf1n := Lib.hid hf1n
    clear own4 turn4 hg4 bz3 s3'
    go_wp2_with fail
    go_region
    clear z0 z1 z2 z3 z4 z5 k3 hrun
    have z0 := bz4.out.cell (i := 0) rfl
    have z1 := bz4.out.cell (i := 1) rfl
    have z2 := bz4.out.cell (i := 2) rfl
    have z3 := bz4.out.cell (i := 3) rfl
    have z4 := bz4.out.cell (i := 4) rfl
    go_wp2_with fail
    refine (bAdd s4.out.1 (by omega) (by omega) hx4.out).mono ?_
    rintro e w5 ⟨rfl, vt5, pt5, p', hp'x, hp'n, s5⟩
    have s6 := s4.out.trans s5
    replace s6 := Lib.hid s6
    clear s4 s5 hx4
    replace hp'x := Lib.hid hp'x
    replace hp'n := Lib.hid hp'n
    go_wp2_with fail
    go_end0
    exact ⟨rfl, _, _, _, p', _, by rw [hp'x.out, M7.endK_nil, List.append_nil, hf1x.out], hp'n.out, hn4, by rw [hD.out]; exact s6.out⟩
end Go.Proofs.YteefodibpjgicaaGreat

namespace Go.Proofs.YteefodibpjgicaaGreat
open Go.RowKit Go.Maps
theorem M7.tr_split (A : List Nd) (x : Nd) (z : List Nd) : M7.tr (A ++ [x]) z = M7.tr (A ++ [M7.wk x []]) (x.kids ++ z) := by
  have h := M7.tr_in A (M7.wk x []) x.kids z
  have e : M7.wk (M7.wk x []) ((M7.wk x []).kids ++ x.kids) = x := by cases x; rfl
  rw [e] at h
  exact h
theorem M7.tr_kids (fs : List Nd) (z : List Nd) : ∀ f ∈ fs, f.kids.length ≤ M3.weight (M7.tr fs z) := by
  induction fs with
  | nil => intro f h; cases h
  | cons x r ih =>
    intro f hf
    cases r with
    | nil =>
      obtain rfl := List.mem_singleton.1 hf
      show _ ≤ M3.weight (f.kids ++ z)
      have := M3.length_le_weight f.kids
      rw [M3.weight_append]; omega
    | cons y r =>
      rw [M7.tr_cons, M3.weight_append, M3.weight_cons]
      rcases List.mem_cons.1 hf with rfl | hf
      · have := M3.length_le_weight f.kids
        omega
      · have := ih f hf
        show _ ≤ M3.weight x.kids + (1 + (M7.el y (M7.tr (y :: r) z)).attrs.length + M3.weight (M7.tr (y :: r) z) + M3.weight [])
        omega
theorem M7.tr_fits (fs : List Nd) (z : List Nd) : ∀ j f, fs[j]? = some f → M3.weight f.kids ≤ M3.weight (M7.tr fs z) ∧ (0 < j → f.attrs.length ≤ M3.weight (M7.tr fs z)) := by
  induction fs with
  | nil => intro j f h; simp at h
  | cons x r ih =>
    intro j f hf
    cases r with
    | nil =>
      cases j with
      | zero =>
        obtain rfl : x = f := by simpa using hf
        refine ⟨?_, fun h => absurd h (Nat.lt_irrefl _)⟩
        show _ ≤ M3.weight (x.kids ++ z)
        rw [M3.weight_append]; omega
      | succ j => simp at hf
    | cons y r =>
      rw [M7.tr_cons, M3.weight_append, M3.weight_cons]
      have e1 : (M7.el y (M7.tr (y :: r) z)).kids = M7.tr (y :: r) z := rfl
      have e2 : (M7.el y (M7.tr (y :: r) z)).attrs = y.attrs := rfl
      rw [e1, e2]
      cases j with
      | zero =>
        obtain rfl : x = f := by simpa using hf
        exact ⟨by omega, fun h => absurd h (Nat.lt_irrefl _)⟩
      | succ j =>
        have hf2 : (y :: r)[j]? = some f := by simpa using hf
        obtain ⟨q1, q2⟩ := ih j f hf2
        refine ⟨by omega, fun _ => ?_⟩
        cases j with
        | zero =>
          obtain rfl : y = f := by simpa using hf2
          omega
        | succ j =>
          have := q2 (by omega)
          omega
def namesW (fs : List FV) : List ByteArray := M7.namesF (fs.map FV.x)
theorem namesW_snoc {A : List FV} (h : A ≠ []) (f : FV) : namesW (A ++ [f]) = namesW A ++ [f.x.name] := by
  cases A with
  | nil => exact absurd rfl h
  | cons a A =>
    unfold namesW
    rw [List.map_append, List.map_cons, List.map_cons, List.map_nil, M7.names_snoc]
theorem namesW_last (A : List FV) (f f' : FV) (h : f'.x.name = f.x.name) : namesW (A ++ [f']) = namesW (A ++ [f]) := by
  unfold namesW M7.namesF
  rw [List.map_append, List.map_append]
  cases A with
  | nil => rfl
  | cons a A =>
    simp only [List.map_cons, List.cons_append, List.drop_succ_cons, List.drop_zero, List.map_append, List.map_nil]
    rw [h]
theorem namesW_len (fs : List FV) : (namesW fs).length = fs.length - 1 := by unfold namesW M7.namesF; simp
structure BInv (fs : List FV) (tx : List UInt8) (n : Nat) (D : DataW Unit) (s : M7.St) (q : Nat) : Prop where
  len : s.d + 1 = fs.length
  L : s.L = M7.tr (fs.map FV.x) (M7.endK tx)
  el : ∀ j f, fs[j + 1]? = some f → f.x.kind = 1 ∧ f.x.text = ⟨#[]⟩ ∧ f.x.name.size ≤ 1048576
  notx : ∀ A f, fs = A ++ [f] → M7.noTx f.x.kids
  nxt : ∀ j f, fs[j + 1]? = some f → f.nx = M7.plc (namesW fs) f.x.name j
  map : ∀ nm : ByteArray, Maps.has D (keyN nm) = decide (M7.plc (namesW fs) nm s.d ≠ 0) ∧ D.atKey (keyN nm) (.lit (.int .i64 0)) = .lit (.int .i64 (M7.plc (namesW fs) nm s.d : Int))
  fsq : fs.length ≤ q + 1
  nq : n + fs.length ≤ 2 * q + 1
  tq : tx.length ≤ q
  wq : M3.weight s.L ≤ q
  root : ∀ f, fs[0]? = some f → f.x.attrs = []
section
variable {fs A : List FV} {tx : List UInt8} {n q : Nat} {D : DataW Unit} {s : M7.St} {f p : FV}
theorem BInv.ne (h : BInv fs tx n D s q) : fs ≠ [] := fun e => by have := h.len; rw [e] at this; simp at this
theorem BInv.snoc (h : BInv fs tx n D s q) : ∃ A f, fs = A ++ [f] := by
  rcases List.eq_nil_or_concat fs with e | ⟨A, f, e⟩
  · exact absurd e h.ne
  · exact ⟨A, f, by rw [e, List.concat_eq_append]⟩
theorem BInv.d (h : BInv (A ++ [f]) tx n D s q) : s.d = A.length := by have := h.len; simp at this; exact this
theorem BInv.lx (h : BInv (A ++ [f]) tx n D s q) : s.L = M7.tr (A.map FV.x ++ [f.x]) (M7.endK tx) := by rw [h.L]; simp
theorem BInv.is (h : BInv (A ++ [f]) tx n D s q) : M7.okD s.d s.L ∧ M7.openN s.d s.L = namesW (A ++ [f]) ∧ M7.levelN s.d s.L = f.x.kids ++ M7.endK tx ∧ ∀ x, M7.putN s.d x s.L = M7.tr (A.map FV.x ++ [M7.wk f.x []]) (M3.push (f.x.kids ++ M7.endK tx) x) := by
  have := M7.tr_is (A.map FV.x) f.x (M7.endK tx)
  rw [h.lx, h.d]
  rw [List.length_map] at this
  obtain ⟨q1, q2, q3, q4⟩ := this
  exact ⟨q1, by rw [q2]; unfold namesW; simp, q3, q4⟩
theorem BInv.names (h : BInv fs tx n D s q) : M7.openN s.d s.L = namesW fs := by
  obtain ⟨A, f, rfl⟩ := h.snoc
  exact h.is.2.1
theorem BInv.kids_le (h : BInv fs tx n D s q) : ∀ f ∈ fs, f.x.kids.length ≤ q := fun f hf => by
  have h1 := M7.tr_kids (fs.map FV.x) (M7.endK tx) f.x (List.mem_map_of_mem hf)
  rw [← h.L] at h1
  have := h.wq
  omega
theorem BInv.fits (h : BInv fs tx n D s q) : ∀ f ∈ fs, M3.weight f.x.kids ≤ q ∧ f.x.attrs.length ≤ q := fun f hf => by
  obtain ⟨j, hj⟩ := List.mem_iff_getElem?.1 hf
  have h1 := M7.tr_fits (fs.map FV.x) (M7.endK tx) j f.x (by rw [List.getElem?_map, hj]; rfl)
  rw [← h.L] at h1
  have := h.wq
  refine ⟨by omega, ?_⟩
  cases j with
  | zero => rw [h.root f hj]; simp
  | succ j => have := h1.2 (by omega); omega
theorem BInv.at_last (_h : BInv ((A ++ [p]) ++ [f]) tx n D s q) : ((A ++ [p]) ++ [f])[A.length + 1]? = some f := by
  rw [List.getElem?_append_right (by simp)]
  simp
theorem get_pre {A B : List FV} {j : Nat} {f : FV} (h : A[j]? = some f) : (A ++ B)[j]? = some f := by
  rw [List.getElem?_append_left (List.getElem?_eq_some_iff.1 h).1]; exact h
theorem get_snoc {A : List FV} {j : Nat} {f g : FV} (h : (A ++ [g])[j]? = some f) : A[j]? = some f ∨ (j = A.length ∧ f = g) := by
  rcases Nat.lt_or_ge j A.length with h1 | h1
  · rw [List.getElem?_append_left h1] at h; exact .inl h
  · rw [List.getElem?_append_right h1] at h
    have h2 := (List.getElem?_eq_some_iff.1 h).1
    simp at h2
    have e : j - A.length = 0 := by omega
    rw [e] at h
    simp at h
    exact .inr ⟨by omega, h.symm⟩
theorem keyN_ne {a b : ByteArray} (h : a.data.toList ≠ b.data.toList) : keyN a ≠ keyN b := fun e => by
  unfold keyN at e
  injection e with e
  exact h e
theorem keyN_is (s : ByteArray) : WideAt.IsKeyLit (keyN s) := trivial
theorem BInv.shut {p' : FV} {n' : Nat} (h : BInv ((A ++ [p]) ++ [f]) tx n D s q) (hm : IsMap D) (hx : p'.x = M7.wk p.x (p.x.kids ++ [M7.wk f.x (f.x.kids ++ M7.endK tx)])) (hn : p'.nx = p.nx) (hn' : n' ≤ n + 1) : BInv (A ++ [p']) [] n' (shutD f D) ⟨s.L, s.d - 1⟩ q ∧ namesW ((A ++ [p]) ++ [f]) = namesW (A ++ [p']) ++ [f.x.name] := by
  have hname : p'.x.name = p.x.name := by rw [hx]; rfl
  have hnm : namesW ((A ++ [p]) ++ [f]) = namesW (A ++ [p']) ++ [f.x.name] := by
    rw [namesW_snoc (by simp), namesW_last A p p' hname]
  have hd := h.d
  have hlp : (A ++ [p]).length = A.length + 1 := by simp
  have hle : (namesW (A ++ [p'])).length = A.length := by rw [namesW_len]; simp
  obtain ⟨hk1, hk2, hk3⟩ := h.el A.length f h.at_last
  have hroot : ∀ g, (A ++ [p'])[0]? = some g → g.x.attrs = [] := fun g hg => by
    rcases get_snoc hg with h1 | ⟨h1, h2⟩
    · exact h.root g (get_pre (get_pre h1))
    · subst h2
      rw [hx]
      exact h.root p (get_pre (by rw [h1, List.getElem?_append_right (Nat.le_refl _), Nat.sub_self]; rfl))
  refine ⟨⟨?_, ?_, ?_, ?_, ?_, ?_, ?_, ?_, ?_, h.wq, hroot⟩, hnm⟩
  · simp; omega
  · show s.L = _
    rw [h.lx, List.map_append, List.map_append, List.map_cons, List.map_nil, List.map_cons, List.map_nil, hx]
    have e : M7.wk f.x (f.x.kids ++ M7.endK tx) = M7.el f.x (f.x.kids ++ M7.endK tx) := by
      unfold M7.wk M7.el
      rw [hk1, hk2]
    rw [e, M7.endK_nil, M7.tr_shut, List.append_assoc]; rfl
  · intro j g hg
    rcases get_snoc hg with h1 | ⟨h1, h2⟩
    · exact h.el j g (get_pre (get_pre h1))
    · subst h2
      have := h.el j p (get_pre (by rw [h1, List.getElem?_append_right (Nat.le_refl _), Nat.sub_self]; rfl))
      rw [hx]
      exact this
  · intro B g e
    obtain ⟨rfl, e2⟩ := List.append_inj' e rfl
    have : p' = g := by simpa using e2
    subst this
    rw [hx]
    refine M7.noTx_snoc ?_
    show M3.isText f.x = false
    unfold M3.isText
    rw [hk1]; rfl
  · intro j g hg
    have hjl := (List.getElem?_eq_some_iff.1 hg).1
    simp at hjl
    have key : ∀ (u : FV), ((A ++ [p]) ++ [f])[j + 1]? = some u → u.nx = M7.plc (namesW (A ++ [p'])) u.x.name j := fun u hu => by
      have := h.nxt j u hu
      rw [hnm, M7.plc_pre _ _ _ _ (by omega)] at this
      exact this
    rcases get_snoc hg with h1 | ⟨h1, h2⟩
    · exact key g (get_pre (get_pre h1))
    · subst h2
      have := key p (get_pre (by rw [h1, List.getElem?_append_right (Nat.le_refl _), Nat.sub_self]; rfl))
      rw [hn, hname]
      exact this
  · intro nm
    show _ = decide (M7.plc _ nm (s.d - 1) ≠ 0) ∧ _
    have e1 : s.d - 1 = A.length := by omega
    have e2 : s.d = A.length + 1 := by omega
    obtain ⟨m1, m2⟩ := h.map nm
    have hnx : f.nx = M7.plc (namesW (A ++ [p'])) f.x.name A.length := by
      have := h.nxt A.length f h.at_last
      rw [hnm, M7.plc_pre _ _ _ _ (by omega)] at this
      exact this
    rw [hnm, e2, ← hle, M7.plc_snoc] at m1 m2
    rw [e1, ← hle]
    rw [← hle] at hnx
    by_cases he : f.x.name.data.toList = nm.data.toList
    · have hkk : keyN nm = keyN f.x.name := by unfold keyN; rw [he]
      have hpp : M7.plc (namesW (A ++ [p'])) nm (namesW (A ++ [p'])).length = f.nx := by
        rw [hnx]
        clear m1 m2 hnx
        generalize (namesW (A ++ [p'])).length = k
        induction k with
        | zero => rfl
        | succ k ih => rw [M7.plc, M7.plc, ih, he]
      rw [hpp, hkk]
      unfold shutD
      split
      · rename_i h0
        rw [h0]
        exact ⟨by rw [has_del_same]; rfl, by rw [atKey_del_same]; rfl⟩
      · rename_i h0
        exact ⟨by rw [has_put_same hm (keyN_is _)]; simp [h0], by rw [atKey_put_same hm (keyN_is _)]⟩
    · have hne : keyN nm ≠ keyN f.x.name := keyN_ne (fun e => he e.symm)
      rw [if_neg he] at m1 m2
      unfold shutD
      split
      · exact ⟨by rw [has_del_other hne]; exact m1, by rw [atKey_del_other hne]; exact m2⟩
      · exact ⟨by rw [has_put_other hne]; exact m1, by rw [atKey_put_other hne]; exact m2⟩
  · have := h.fsq
    simp at this ⊢; omega
  · have := h.nq
    simp at this ⊢; omega
  · simp
theorem BInv.add {f' : FV} {x : Nd} {c : Nat} (h : BInv (A ++ [f]) tx n D s q) (hx : f'.x = M7.wk f.x (f.x.kids ++ M7.endK tx ++ [x])) (hn : f'.nx = f.nx) (ht : M3.isText x = false) (hw : M3.weight [x] ≤ c) (_h1c : 1 ≤ c) : BInv (A ++ [f']) [] n D ⟨M7.putN s.d x s.L, s.d⟩ (q + c) := by
  have hname : f'.x.name = f.x.name := by rw [hx]; rfl
  have hnm : namesW (A ++ [f']) = namesW (A ++ [f]) := namesW_last A f f' hname
  have hlen := h.len
  have hroot : ∀ g, (A ++ [f'])[0]? = some g → g.x.attrs = [] := fun g hg => by
    rcases get_snoc hg with h1 | ⟨h1, h2⟩
    · exact h.root g (get_pre h1)
    · subst h2
      rw [hx]
      exact h.root f (by rw [h1, List.getElem?_append_right (Nat.le_refl _), Nat.sub_self]; rfl)
  refine ⟨by simpa using hlen, ?_, ?_, ?_, ?_, ?_, ?_, ?_, by simp, ?_, hroot⟩
  · show M7.putN s.d x s.L = _
    rw [h.is.2.2.2 x, M7.push_node x ht, List.map_append, List.map_cons, List.map_nil, M7.tr_split _ f'.x, hx, M7.endK_nil]
    show _ = M7.tr (A.map FV.x ++ [M7.wk (M7.wk f.x _) []]) ((f.x.kids ++ M7.endK tx ++ [x]) ++ [])
    rw [List.append_nil, wk_wk]
  · intro j g hg
    rcases get_snoc hg with h1 | ⟨h1, h2⟩
    · exact h.el j g (get_pre h1)
    · subst h2
      have := h.el j f (by rw [h1, List.getElem?_append_right (Nat.le_refl _), Nat.sub_self]; rfl)
      rw [hx]; exact this
  · intro B g e
    obtain ⟨rfl, e2⟩ := List.append_inj' e rfl
    have : f' = g := by simpa using e2
    subst this
    rw [hx]
    exact M7.noTx_snoc ht
  · intro j g hg
    rw [hnm]
    rcases get_snoc hg with h1 | ⟨h1, h2⟩
    · exact h.nxt j g (get_pre h1)
    · subst h2
      rw [hn, hname]
      exact h.nxt j f (by rw [h1, List.getElem?_append_right (Nat.le_refl _), Nat.sub_self]; rfl)
  · intro nm
    rw [hnm]
    exact h.map nm
  · have := h.fsq; simp at this ⊢; omega
  · have := h.nq; simp at this ⊢; omega
  · have := M7.weight_put x h.is.1
    have := h.wq
    show M3.weight (M7.putN s.d x s.L) ≤ _
    omega
theorem BInv.chars {t : Tok} {c : Nat} (h : BInv fs tx n D s q) (ht : 1 + t.text.size ≤ c) : BInv fs (tx ++ t.text.data.toList) n D ⟨M7.putN s.d (M7.txT t) s.L, s.d⟩ (q + c) := by
  obtain ⟨A, f, rfl⟩ := h.snoc
  refine ⟨h.len, ?_, h.el, h.notx, h.nxt, h.map, ?_, ?_, ?_, ?_, h.root⟩
  · show M7.putN s.d _ s.L = _
    rw [h.is.2.2.2, M7.push_more (h.notx A f rfl) tx t.text.data.toList (M7.txT t) (by unfold M7.txT; simp), List.map_append, List.map_cons, List.map_nil, M7.tr_split _ f.x]
  · have := h.fsq; omega
  · have := h.nq; omega
  · have := h.tq
    rw [List.length_append]
    have e : t.text.data.toList.length = t.text.size := rfl
    omega
  · have h1 := M7.weight_put (M7.txT t) h.is.1
    have h2 := h.wq
    have h3 : M3.weight [M7.txT t] = 1 := by rw [M3.weight_cons, M3.weight_nil]; show 1 + 0 + M3.weight [] + 0 = 1; rw [M3.weight_nil]
    show M3.weight (M7.putN s.d _ s.L) ≤ _
    omega
theorem BInv.push {f' e : FV} {t : Tok} {n' c : Nat} (h : BInv (A ++ [f]) tx n D s q) (hm : IsMap D) (hx : f'.x = M7.wk f.x (f.x.kids ++ M7.endK tx)) (hn : f'.nx = f.nx) (he : e.x = M7.elT t) (hen : e.nx = M7.plc (namesW (A ++ [f])) t.name s.d) (hts : t.name.size ≤ 1048576) (hta : 1 + t.attrs.length ≤ c) (hn' : n' ≤ n + 1) :
    BInv ((A ++ [f']) ++ [e]) [] n' (D.put (keyN t.name) (.lit (.int .i64 ((A.length + 1 : Nat) : Int)))) ⟨M7.putN s.d (M7.elT t) s.L, s.d + 1⟩ (q + c) := by
  have hname : f'.x.name = f.x.name := by rw [hx]; rfl
  have hnm1 : namesW (A ++ [f']) = namesW (A ++ [f]) := namesW_last A f f' hname
  have hen2 : e.x.name = t.name := by rw [he]; rfl
  have hnm : namesW ((A ++ [f']) ++ [e]) = namesW (A ++ [f]) ++ [t.name] := by rw [namesW_snoc (by simp), hnm1, hen2]
  have hd := h.d
  have hle : (namesW (A ++ [f])).length = A.length := by rw [namesW_len]; simp
  have hw : M3.weight [M7.elT t] ≤ c := by
    rw [M3.weight_cons, M3.weight_nil]
    show 1 + t.attrs.length + M3.weight [] + 0 ≤ _
    rw [M3.weight_nil]; omega
  have hroot : ∀ g, ((A ++ [f']) ++ [e])[0]? = some g → g.x.attrs = [] := fun g hg => by
    rcases get_snoc hg with h1 | ⟨h1, h2⟩
    · rcases get_snoc h1 with h3 | ⟨h3, h4⟩
      · exact h.root g (get_pre h3)
      · subst h4
        rw [hx]
        exact h.root f (by rw [h3, List.getElem?_append_right (Nat.le_refl _), Nat.sub_self]; rfl)
    · simp at h1
  refine ⟨by simp; omega, ?_, ?_, ?_, ?_, ?_, ?_, ?_, by simp, ?_, hroot⟩
  · show M7.putN s.d _ s.L = _
    rw [h.is.2.2.2, M7.push_node _ (by rfl), List.map_append, List.map_append, List.map_cons, List.map_nil, List.map_cons, List.map_nil, List.append_assoc (A.map FV.x), M7.endK_nil]
    have e1 := M7.tr_shut (A.map FV.x) f'.x e.x []
    show _ = M7.tr (A.map FV.x ++ [f'.x, e.x]) []
    rw [← e1, M7.tr_split _ (M7.wk f'.x _), hx, he]
    show _ = M7.tr (A.map FV.x ++ [M7.wk (M7.wk (M7.wk f.x _) _) []]) (((f.x.kids ++ M7.endK tx) ++ [M7.el (M7.elT t) ([] ++ [])]) ++ [])
    rw [wk_wk, wk_wk]
    exact (congrArg (M7.tr _) (List.append_nil _)).symm
  · intro j g hg
    rcases get_snoc hg with h1 | ⟨h1, h2⟩
    · rcases get_snoc h1 with h3 | ⟨h3, h4⟩
      · exact h.el j g (get_pre h3)
      · subst h4
        have := h.el j f (by rw [h3, List.getElem?_append_right (Nat.le_refl _), Nat.sub_self]; rfl)
        rw [hx]; exact this
    · subst h2
      rw [he]
      exact ⟨rfl, rfl, hts⟩
  · intro B g eq
    obtain ⟨rfl, e2⟩ := List.append_inj' eq rfl
    have : e = g := by simpa using e2
    subst this
    rw [he]
    exact M7.noTx_nil
  · intro j g hg
    have hjl := (List.getElem?_eq_some_iff.1 hg).1
    simp at hjl
    rw [hnm, M7.plc_pre _ _ _ _ (by omega)]
    rcases get_snoc hg with h1 | ⟨h1, h2⟩
    · rcases get_snoc h1 with h3 | ⟨h3, h4⟩
      · exact h.nxt j g (get_pre h3)
      · subst h4
        rw [hn, hname]
        exact h.nxt j f (by rw [h3, List.getElem?_append_right (Nat.le_refl _), Nat.sub_self]; rfl)
    · subst h2
      simp at h1
      rw [hen, hen2, hd, h1]
  · intro nm
    show _ = decide (M7.plc _ nm (s.d + 1) ≠ 0) ∧ _
    obtain ⟨m1, m2⟩ := h.map nm
    have e2 : s.d + 1 = (namesW (A ++ [f])).length + 1 := by omega
    have e3 : s.d = (namesW (A ++ [f])).length := by omega
    rw [hnm, e2, M7.plc_snoc]
    rw [e3] at m1 m2
    by_cases heq : t.name.data.toList = nm.data.toList
    · have hkk : keyN nm = keyN t.name := by unfold keyN; rw [heq]
      rw [if_pos heq, hkk, has_put_same hm (keyN_is _), atKey_put_same hm (keyN_is _), hle]
      exact ⟨by simp, rfl⟩
    · have hne : keyN nm ≠ keyN t.name := keyN_ne (fun e => heq e.symm)
      rw [if_neg heq, has_put_other hne, atKey_put_other hne]
      exact ⟨m1, m2⟩
  · have := h.fsq; simp at this ⊢; omega
  · have := h.nq; simp at this ⊢; omega
  · have h1 := M7.weight_put (M7.elT t) h.is.1
    have h2 := h.wq
    show M3.weight (M7.putN s.d _ s.L) ≤ _
    omega
end
end Go.Proofs.YteefodibpjgicaaGreat

namespace Go.Proofs.YteefodibpjgicaaGreat
open Go.RowKit
theorem beq_flip (a b : List UInt8) : (a == b) = (b == a) := by
  rw [Bool.eq_iff_iff]; simp only [beq_iff_eq]; exact eq_comm
set_option maxHeartbeats 4000000 in
theorem ref06Closes (o b : ByteArray) (w : World) : Calls Tryz.prog 80 #[.string o, .string b] w fun e w' => e = .returned (.bool (M6.closesB o.data.toList b.data.toList)) ∧ Below w.heap.size w w' := by
  rw [← hasT_closed]
  have hl8 : (closedT o.data.toList).length ≤ 11 := by
    unfold closedT
    repeat' split
    all_goals decide
  obtain ⟨wo, rfl⟩ : ∃ wo : World, wo = w := ⟨_, rfl⟩
  by_cases h0 : o.data.toList = [112]
  · have e0 : (o.toList == [112]) = true := by rw [Lib.toList_data, h0]; rfl
    have hr : Txs (fun b => b < wo.heap.size + 1) (wo.alloc (.cells #[.string ⟨#[98, 108, 111, 99, 107, 113, 117, 111, 116, 101]⟩, .string ⟨#[100, 105, 118]⟩, .string ⟨#[104, 49]⟩, .string ⟨#[104, 50]⟩, .string ⟨#[104, 114]⟩, .string ⟨#[108, 105]⟩, .string ⟨#[111, 108]⟩, .string ⟨#[112]⟩, .string ⟨#[112, 114, 101]⟩, .string ⟨#[116, 97, 98, 108, 101]⟩, .string ⟨#[117, 108]⟩] 9)) (.slice (some ⟨wo.heap.size, 0, none⟩) 11 11) cl_p := txs_made (fun b => b < wo.heap.size + 1) wo 9 cl_p 11 rfl (by decide) (by omega)
    have hb0 := (Below.refl wo.heap.size wo).alloc (Nat.le_refl _) (.cells #[.string ⟨#[98, 108, 111, 99, 107, 113, 117, 111, 116, 101]⟩, .string ⟨#[100, 105, 118]⟩, .string ⟨#[104, 49]⟩, .string ⟨#[104, 50]⟩, .string ⟨#[104, 114]⟩, .string ⟨#[108, 105]⟩, .string ⟨#[111, 108]⟩, .string ⟨#[112]⟩, .string ⟨#[112, 114, 101]⟩, .string ⟨#[116, 97, 98, 108, 101]⟩, .string ⟨#[117, 108]⟩] 9)
    have hcl : closedT o.data.toList = cl_p := by rw [h0]; rfl
    rw [← hcl] at hr
    clear hcl h0
    generalize closedT o.data.toList = l at *
    have hn : Hid (11 = l.length) := Lib.hid (Row.len hr).1
    have h0 : Hid (hasT b l = hasT b (l.drop 0)) := rfl
    replace hb0 := Lib.hid hb0
    go_enter Tryz.func80, Tryz.ntmps80
    go_wp2_with fail
    obtain ⟨W, hW⟩ : ∃ W, wo.alloc (.cells #[.string ⟨#[98, 108, 111, 99, 107, 113, 117, 111, 116, 101]⟩, .string ⟨#[100, 105, 118]⟩, .string ⟨#[104, 49]⟩, .string ⟨#[104, 50]⟩, .string ⟨#[104, 114]⟩, .string ⟨#[108, 105]⟩, .string ⟨#[111, 108]⟩, .string ⟨#[112]⟩, .string ⟨#[112, 114, 101]⟩, .string ⟨#[116, 97, 98, 108, 101]⟩, .string ⟨#[117, 108]⟩] 9) = W := ⟨_, rfl⟩
    rw [hW] at hr hb0 ⊢
    clear hW
    go_loopw [6] (fun u6 wr => W = wr ∧ ∃ i : Nat, i ≤ 11 ∧ u6 = .int .i64 (i : Int) ∧ Hid (hasT b l = hasT b (l.drop i))) (fun u6 _ => 11 - (intOf u6).toNat)
    case atStart => exact ⟨rfl, 0, by omega, rfl, h0⟩
    case round =>
      obtain ⟨rfl, i, hi, rfl, hv⟩ := hrel
      by_cases hlt : i < 11
      · have hl2 : i < l.length := by have := hn.out; omega
        obtain ⟨g, off, ea, _, c0⟩ := Row.atS hr i hl2
        cases ea
        simp only [Nat.zero_add] at c0
        have hd := hv.out.trans (hasT_drop b l i hl2)
        clear hv
        rw [beq_flip] at hd
        cases ht : (l[i].toList == b.toList)
        · rw [ht, Bool.false_or] at hd
          replace hd := Lib.hid hd
          generalize l[i] = t at *
          go_wp2_with fail
          go_roundw
          case rel => exact ⟨trivial, i + 1, by omega, by go_num, hd⟩
          case measure => exact meas_nat hlt
        · rw [ht, Bool.true_or] at hd
          replace hd := Lib.hid hd
          generalize l[i] = t at *
          go_wp2_with fail
          go_ret
          exact ⟨by rw [hd.out]; rfl, hb0.out⟩
      · obtain rfl : i = 11 := by omega
        have hd := hv.out
        rw [List.drop_of_length_le (by have := hn.out; omega)] at hd
        replace hd := Lib.hid hd
        clear hv
        go_wp2_with fail
        go_ret
        exact ⟨by rw [hd.out]; rfl, hb0.out⟩
  have e0 : (o.toList == [112]) = false := by rw [Lib.toList_data, beq_eq_false_iff_ne]; exact h0
  by_cases h1 : o.data.toList = [108, 105]
  · have e1 : (o.toList == [108, 105]) = true := by rw [Lib.toList_data, h1]; rfl
    have hr : Txs (fun b => b < wo.heap.size + 1) (wo.alloc (.cells #[.string ⟨#[108, 105]⟩] 9)) (.slice (some ⟨wo.heap.size, 0, none⟩) 1 1) cl_li := txs_made (fun b => b < wo.heap.size + 1) wo 9 cl_li 1 rfl (by decide) (by omega)
    have hb0 := (Below.refl wo.heap.size wo).alloc (Nat.le_refl _) (.cells #[.string ⟨#[108, 105]⟩] 9)
    have hcl : closedT o.data.toList = cl_li := by rw [h1]; rfl
    rw [← hcl] at hr
    clear hcl h1
    generalize closedT o.data.toList = l at *
    have hn : Hid (1 = l.length) := Lib.hid (Row.len hr).1
    have h0 : Hid (hasT b l = hasT b (l.drop 0)) := rfl
    replace hb0 := Lib.hid hb0
    go_enter Tryz.func80, Tryz.ntmps80
    go_wp2_with fail
    obtain ⟨W, hW⟩ : ∃ W, wo.alloc (.cells #[.string ⟨#[108, 105]⟩] 9) = W := ⟨_, rfl⟩
    rw [hW] at hr hb0 ⊢
    clear hW
    go_loopw [6] (fun u6 wr => W = wr ∧ ∃ i : Nat, i ≤ 1 ∧ u6 = .int .i64 (i : Int) ∧ Hid (hasT b l = hasT b (l.drop i))) (fun u6 _ => 1 - (intOf u6).toNat)
    case atStart => exact ⟨rfl, 0, by omega, rfl, h0⟩
    case round =>
      obtain ⟨rfl, i, hi, rfl, hv⟩ := hrel
      by_cases hlt : i < 1
      · have hl2 : i < l.length := by have := hn.out; omega
        obtain ⟨g, off, ea, _, c0⟩ := Row.atS hr i hl2
        cases ea
        simp only [Nat.zero_add] at c0
        have hd := hv.out.trans (hasT_drop b l i hl2)
        clear hv
        rw [beq_flip] at hd
        cases ht : (l[i].toList == b.toList)
        · rw [ht, Bool.false_or] at hd
          replace hd := Lib.hid hd
          generalize l[i] = t at *
          go_wp2_with fail
          go_roundw
          case rel => exact ⟨trivial, i + 1, by omega, by go_num, hd⟩
          case measure => exact meas_nat hlt
        · rw [ht, Bool.true_or] at hd
          replace hd := Lib.hid hd
          generalize l[i] = t at *
          go_wp2_with fail
          go_ret
          exact ⟨by rw [hd.out]; rfl, hb0.out⟩
      · obtain rfl : i = 1 := by omega
        have hd := hv.out
        rw [List.drop_of_length_le (by have := hn.out; omega)] at hd
        replace hd := Lib.hid hd
        clear hv
        go_wp2_with fail
        go_ret
        exact ⟨by rw [hd.out]; rfl, hb0.out⟩
  have e1 : (o.toList == [108, 105]) = false := by rw [Lib.toList_data, beq_eq_false_iff_ne]; exact h1
  by_cases h2 : o.data.toList = [100, 116]
  · have e2 : (o.toList == [100, 116]) = true := by rw [Lib.toList_data, h2]; rfl
    have hr : Txs (fun b => b < wo.heap.size + 1) (wo.alloc (.cells #[.string ⟨#[100, 100]⟩, .string ⟨#[100, 116]⟩] 9)) (.slice (some ⟨wo.heap.size, 0, none⟩) 2 2) cl_dt := txs_made (fun b => b < wo.heap.size + 1) wo 9 cl_dt 2 rfl (by decide) (by omega)
    have hb0 := (Below.refl wo.heap.size wo).alloc (Nat.le_refl _) (.cells #[.string ⟨#[100, 100]⟩, .string ⟨#[100, 116]⟩] 9)
    have hcl : closedT o.data.toList = cl_dt := by rw [h2]; rfl
    rw [← hcl] at hr
    clear hcl h2
    generalize closedT o.data.toList = l at *
    have hn : Hid (2 = l.length) := Lib.hid (Row.len hr).1
    have h0 : Hid (hasT b l = hasT b (l.drop 0)) := rfl
    replace hb0 := Lib.hid hb0
    go_enter Tryz.func80, Tryz.ntmps80
    go_wp2_with fail
    obtain ⟨W, hW⟩ : ∃ W, wo.alloc (.cells #[.string ⟨#[100, 100]⟩, .string ⟨#[100, 116]⟩] 9) = W := ⟨_, rfl⟩
    rw [hW] at hr hb0 ⊢
    clear hW
    go_loopw [6] (fun u6 wr => W = wr ∧ ∃ i : Nat, i ≤ 2 ∧ u6 = .int .i64 (i : Int) ∧ Hid (hasT b l = hasT b (l.drop i))) (fun u6 _ => 2 - (intOf u6).toNat)
    case atStart => exact ⟨rfl, 0, by omega, rfl, h0⟩
    case round =>
      obtain ⟨rfl, i, hi, rfl, hv⟩ := hrel
      by_cases hlt : i < 2
      · have hl2 : i < l.length := by have := hn.out; omega
        obtain ⟨g, off, ea, _, c0⟩ := Row.atS hr i hl2
        cases ea
        simp only [Nat.zero_add] at c0
        have hd := hv.out.trans (hasT_drop b l i hl2)
        clear hv
        rw [beq_flip] at hd
        cases ht : (l[i].toList == b.toList)
        · rw [ht, Bool.false_or] at hd
          replace hd := Lib.hid hd
          generalize l[i] = t at *
          go_wp2_with fail
          go_roundw
          case rel => exact ⟨trivial, i + 1, by omega, by go_num, hd⟩
          case measure => exact meas_nat hlt
        · rw [ht, Bool.true_or] at hd
          replace hd := Lib.hid hd
          generalize l[i] = t at *
          go_wp2_with fail
          go_ret
          exact ⟨by rw [hd.out]; rfl, hb0.out⟩
      · obtain rfl : i = 2 := by omega
        have hd := hv.out
        rw [List.drop_of_length_le (by have := hn.out; omega)] at hd
        replace hd := Lib.hid hd
        clear hv
        go_wp2_with fail
        go_ret
        exact ⟨by rw [hd.out]; rfl, hb0.out⟩
  have e2 : (o.toList == [100, 116]) = false := by rw [Lib.toList_data, beq_eq_false_iff_ne]; exact h2
  by_cases h3 : o.data.toList = [100, 100]
  · have e3 : (o.toList == [100, 100]) = true := by rw [Lib.toList_data, h3]; rfl
    have hr : Txs (fun b => b < wo.heap.size + 1) (wo.alloc (.cells #[.string ⟨#[100, 100]⟩, .string ⟨#[100, 116]⟩] 9)) (.slice (some ⟨wo.heap.size, 0, none⟩) 2 2) cl_dd := txs_made (fun b => b < wo.heap.size + 1) wo 9 cl_dd 2 rfl (by decide) (by omega)
    have hb0 := (Below.refl wo.heap.size wo).alloc (Nat.le_refl _) (.cells #[.string ⟨#[100, 100]⟩, .string ⟨#[100, 116]⟩] 9)
    have hcl : closedT o.data.toList = cl_dd := by rw [h3]; rfl
    rw [← hcl] at hr
    clear hcl h3
    generalize closedT o.data.toList = l at *
    have hn : Hid (2 = l.length) := Lib.hid (Row.len hr).1
    have h0 : Hid (hasT b l = hasT b (l.drop 0)) := rfl
    replace hb0 := Lib.hid hb0
    go_enter Tryz.func80, Tryz.ntmps80
    go_wp2_with fail
    obtain ⟨W, hW⟩ : ∃ W, wo.alloc (.cells #[.string ⟨#[100, 100]⟩, .string ⟨#[100, 116]⟩] 9) = W := ⟨_, rfl⟩
    rw [hW] at hr hb0 ⊢
    clear hW
    go_loopw [6] (fun u6 wr => W = wr ∧ ∃ i : Nat, i ≤ 2 ∧ u6 = .int .i64 (i : Int) ∧ Hid (hasT b l = hasT b (l.drop i))) (fun u6 _ => 2 - (intOf u6).toNat)
    case atStart => exact ⟨rfl, 0, by omega, rfl, h0⟩
    case round =>
      obtain ⟨rfl, i, hi, rfl, hv⟩ := hrel
      by_cases hlt : i < 2
      · have hl2 : i < l.length := by have := hn.out; omega
        obtain ⟨g, off, ea, _, c0⟩ := Row.atS hr i hl2
        cases ea
        simp only [Nat.zero_add] at c0
        have hd := hv.out.trans (hasT_drop b l i hl2)
        clear hv
        rw [beq_flip] at hd
        cases ht : (l[i].toList == b.toList)
        · rw [ht, Bool.false_or] at hd
          replace hd := Lib.hid hd
          generalize l[i] = t at *
          go_wp2_with fail
          go_roundw
          case rel => exact ⟨trivial, i + 1, by omega, by go_num, hd⟩
          case measure => exact meas_nat hlt
        · rw [ht, Bool.true_or] at hd
          replace hd := Lib.hid hd
          generalize l[i] = t at *
          go_wp2_with fail
          go_ret
          exact ⟨by rw [hd.out]; rfl, hb0.out⟩
      · obtain rfl : i = 2 := by omega
        have hd := hv.out
        rw [List.drop_of_length_le (by have := hn.out; omega)] at hd
        replace hd := Lib.hid hd
        clear hv
        go_wp2_with fail
        go_ret
        exact ⟨by rw [hd.out]; rfl, hb0.out⟩
  have e3 : (o.toList == [100, 100]) = false := by rw [Lib.toList_data, beq_eq_false_iff_ne]; exact h3
  by_cases h4 : o.data.toList = [111, 112, 116, 105, 111, 110]
  · have e4 : (o.toList == [111, 112, 116, 105, 111, 110]) = true := by rw [Lib.toList_data, h4]; rfl
    have hr : Txs (fun b => b < wo.heap.size + 1) (wo.alloc (.cells #[.string ⟨#[111, 112, 116, 105, 111, 110]⟩] 9)) (.slice (some ⟨wo.heap.size, 0, none⟩) 1 1) cl_option := txs_made (fun b => b < wo.heap.size + 1) wo 9 cl_option 1 rfl (by decide) (by omega)
    have hb0 := (Below.refl wo.heap.size wo).alloc (Nat.le_refl _) (.cells #[.string ⟨#[111, 112, 116, 105, 111, 110]⟩] 9)
    have hcl : closedT o.data.toList = cl_option := by rw [h4]; rfl
    rw [← hcl] at hr
    clear hcl h4
    generalize closedT o.data.toList = l at *
    have hn : Hid (1 = l.length) := Lib.hid (Row.len hr).1
    have h0 : Hid (hasT b l = hasT b (l.drop 0)) := rfl
    replace hb0 := Lib.hid hb0
    go_enter Tryz.func80, Tryz.ntmps80
    go_wp2_with fail
    obtain ⟨W, hW⟩ : ∃ W, wo.alloc (.cells #[.string ⟨#[111, 112, 116, 105, 111, 110]⟩] 9) = W := ⟨_, rfl⟩
    rw [hW] at hr hb0 ⊢
    clear hW
    go_loopw [6] (fun u6 wr => W = wr ∧ ∃ i : Nat, i ≤ 1 ∧ u6 = .int .i64 (i : Int) ∧ Hid (hasT b l = hasT b (l.drop i))) (fun u6 _ => 1 - (intOf u6).toNat)
    case atStart => exact ⟨rfl, 0, by omega, rfl, h0⟩
    case round =>
      obtain ⟨rfl, i, hi, rfl, hv⟩ := hrel
      by_cases hlt : i < 1
      · have hl2 : i < l.length := by have := hn.out; omega
        obtain ⟨g, off, ea, _, c0⟩ := Row.atS hr i hl2
        cases ea
        simp only [Nat.zero_add] at c0
        have hd := hv.out.trans (hasT_drop b l i hl2)
        clear hv
        rw [beq_flip] at hd
        cases ht : (l[i].toList == b.toList)
        · rw [ht, Bool.false_or] at hd
          replace hd := Lib.hid hd
          generalize l[i] = t at *
          go_wp2_with fail
          go_roundw
          case rel => exact ⟨trivial, i + 1, by omega, by go_num, hd⟩
          case measure => exact meas_nat hlt
        · rw [ht, Bool.true_or] at hd
          replace hd := Lib.hid hd
          generalize l[i] = t at *
          go_wp2_with fail
          go_ret
          exact ⟨by rw [hd.out]; rfl, hb0.out⟩
      · obtain rfl : i = 1 := by omega
        have hd := hv.out
        rw [List.drop_of_length_le (by have := hn.out; omega)] at hd
        replace hd := Lib.hid hd
        clear hv
        go_wp2_with fail
        go_ret
        exact ⟨by rw [hd.out]; rfl, hb0.out⟩
  have e4 : (o.toList == [111, 112, 116, 105, 111, 110]) = false := by rw [Lib.toList_data, beq_eq_false_iff_ne]; exact h4
  by_cases h5 : o.data.toList = [116, 100]
  · have e5 : (o.toList == [116, 100]) = true := by rw [Lib.toList_data, h5]; rfl
    have hr : Txs (fun b => b < wo.heap.size + 1) (wo.alloc (.cells #[.string ⟨#[116, 100]⟩, .string ⟨#[116, 114]⟩] 9)) (.slice (some ⟨wo.heap.size, 0, none⟩) 2 2) cl_td := txs_made (fun b => b < wo.heap.size + 1) wo 9 cl_td 2 rfl (by decide) (by omega)
    have hb0 := (Below.refl wo.heap.size wo).alloc (Nat.le_refl _) (.cells #[.string ⟨#[116, 100]⟩, .string ⟨#[116, 114]⟩] 9)
    have hcl : closedT o.data.toList = cl_td := by rw [h5]; rfl
    rw [← hcl] at hr
    clear hcl h5
    generalize closedT o.data.toList = l at *
    have hn : Hid (2 = l.length) := Lib.hid (Row.len hr).1
    have h0 : Hid (hasT b l = hasT b (l.drop 0)) := rfl
    replace hb0 := Lib.hid hb0
    go_enter Tryz.func80, Tryz.ntmps80
    go_wp2_with fail
    obtain ⟨W, hW⟩ : ∃ W, wo.alloc (.cells #[.string ⟨#[116, 100]⟩, .string ⟨#[116, 114]⟩] 9) = W := ⟨_, rfl⟩
    rw [hW] at hr hb0 ⊢
    clear hW
    go_loopw [6] (fun u6 wr => W = wr ∧ ∃ i : Nat, i ≤ 2 ∧ u6 = .int .i64 (i : Int) ∧ Hid (hasT b l = hasT b (l.drop i))) (fun u6 _ => 2 - (intOf u6).toNat)
    case atStart => exact ⟨rfl, 0, by omega, rfl, h0⟩
    case round =>
      obtain ⟨rfl, i, hi, rfl, hv⟩ := hrel
      by_cases hlt : i < 2
      · have hl2 : i < l.length := by have := hn.out; omega
        obtain ⟨g, off, ea, _, c0⟩ := Row.atS hr i hl2
        cases ea
        simp only [Nat.zero_add] at c0
        have hd := hv.out.trans (hasT_drop b l i hl2)
        clear hv
        rw [beq_flip] at hd
        cases ht : (l[i].toList == b.toList)
        · rw [ht, Bool.false_or] at hd
          replace hd := Lib.hid hd
          generalize l[i] = t at *
          go_wp2_with fail
          go_roundw
          case rel => exact ⟨trivial, i + 1, by omega, by go_num, hd⟩
          case measure => exact meas_nat hlt
        · rw [ht, Bool.true_or] at hd
          replace hd := Lib.hid hd
          generalize l[i] = t at *
          go_wp2_with fail
          go_ret
          exact ⟨by rw [hd.out]; rfl, hb0.out⟩
      · obtain rfl : i = 2 := by omega
        have hd := hv.out
        rw [List.drop_of_length_le (by have := hn.out; omega)] at hd
        replace hd := Lib.hid hd
        clear hv
        go_wp2_with fail
        go_ret
        exact ⟨by rw [hd.out]; rfl, hb0.out⟩
  have e5 : (o.toList == [116, 100]) = false := by rw [Lib.toList_data, beq_eq_false_iff_ne]; exact h5
  by_cases h6 : o.data.toList = [116, 114]
  · have e6 : (o.toList == [116, 114]) = true := by rw [Lib.toList_data, h6]; rfl
    have hr : Txs (fun b => b < wo.heap.size + 1) (wo.alloc (.cells #[.string ⟨#[116, 114]⟩] 9)) (.slice (some ⟨wo.heap.size, 0, none⟩) 1 1) cl_tr := txs_made (fun b => b < wo.heap.size + 1) wo 9 cl_tr 1 rfl (by decide) (by omega)
    have hb0 := (Below.refl wo.heap.size wo).alloc (Nat.le_refl _) (.cells #[.string ⟨#[116, 114]⟩] 9)
    have hcl : closedT o.data.toList = cl_tr := by rw [h6]; rfl
    rw [← hcl] at hr
    clear hcl h6
    generalize closedT o.data.toList = l at *
    have hn : Hid (1 = l.length) := Lib.hid (Row.len hr).1
    have h0 : Hid (hasT b l = hasT b (l.drop 0)) := rfl
    replace hb0 := Lib.hid hb0
    go_enter Tryz.func80, Tryz.ntmps80
    go_wp2_with fail
    obtain ⟨W, hW⟩ : ∃ W, wo.alloc (.cells #[.string ⟨#[116, 114]⟩] 9) = W := ⟨_, rfl⟩
    rw [hW] at hr hb0 ⊢
    clear hW
    go_loopw [6] (fun u6 wr => W = wr ∧ ∃ i : Nat, i ≤ 1 ∧ u6 = .int .i64 (i : Int) ∧ Hid (hasT b l = hasT b (l.drop i))) (fun u6 _ => 1 - (intOf u6).toNat)
    case atStart => exact ⟨rfl, 0, by omega, rfl, h0⟩
    case round =>
      obtain ⟨rfl, i, hi, rfl, hv⟩ := hrel
      by_cases hlt : i < 1
      · have hl2 : i < l.length := by have := hn.out; omega
        obtain ⟨g, off, ea, _, c0⟩ := Row.atS hr i hl2
        cases ea
        simp only [Nat.zero_add] at c0
        have hd := hv.out.trans (hasT_drop b l i hl2)
        clear hv
        rw [beq_flip] at hd
        cases ht : (l[i].toList == b.toList)
        · rw [ht, Bool.false_or] at hd
          replace hd := Lib.hid hd
          generalize l[i] = t at *
          go_wp2_with fail
          go_roundw
          case rel => exact ⟨trivial, i + 1, by omega, by go_num, hd⟩
          case measure => exact meas_nat hlt
        · rw [ht, Bool.true_or] at hd
          replace hd := Lib.hid hd
          generalize l[i] = t at *
          go_wp2_with fail
          go_ret
          exact ⟨by rw [hd.out]; rfl, hb0.out⟩
      · obtain rfl : i = 1 := by omega
        have hd := hv.out
        rw [List.drop_of_length_le (by have := hn.out; omega)] at hd
        replace hd := Lib.hid hd
        clear hv
        go_wp2_with fail
        go_ret
        exact ⟨by rw [hd.out]; rfl, hb0.out⟩
  have e6 : (o.toList == [116, 114]) = false := by rw [Lib.toList_data, beq_eq_false_iff_ne]; exact h6
  have hcl : closedT o.data.toList = [] := by unfold closedT; rw [if_neg h0, if_neg h1, if_neg h2, if_neg h3, if_neg h4, if_neg h5, if_neg h6]
  rw [hcl]
  clear hcl hl8 h0 h1 h2 h3 h4 h5 h6
  go_enter Tryz.func80, Tryz.ntmps80
  go_wp2_with fail
  go_loopw [6] (fun u6 wr => wo = wr ∧ u6 = .int .i64 0) (fun u6 _ => 0)
  case atStart => exact ⟨rfl, rfl⟩
  case round =>
    obtain ⟨rfl, rfl⟩ := hrel
    go_wp2_with fail
    go_ret
    exact ⟨rfl, Below.refl _ _⟩
end Go.Proofs.YteefodibpjgicaaGreat

namespace Go.Proofs.YteefodibpjgicaaGreat
open Go.RowKit
theorem wpList_spread {P : Program} {ops : Array Oper} {rest : List Oper} {o : Oper} {a : Act} {Q : Exit → Act → World → Prop} (w1 : World) (k : Nat) (S : Nat → Prop) (hgd : o.guard = none) (s y : Operand) (t e : TypeId)
    (ho : o.op = .call { callee := .builtin .append, args := #[s, y], argTypes := #[t, t] }) (base : Nat) {z : Value} {bytes : Nat} (ht : P.underlying t = some (.slice e))
    (hinfo : (P.info? e).map (fun i => (i.zero, i.size, i.bytes)) = some (some z, k, bytes)) (hz : z.cells.size = k) (hk : 0 < k)
    (v : Value) (n : Nat) (xs : List Value) (hs : a.eval s = v) (hown : w1.ownsRow base e k v n xs) (yv : Value) (m : Nat) (ys : List Value) (hy : a.eval y = yv) (hx : Row S w1 k yv m ys) (h1 : ∀ u ∈ ys, u.oneCell' = true)
    (h63 : n + m ≤ 9223372036854775807) (hbytes : (n + m) * bytes ≤ 140737488355328) (hbase : base ≤ w1.heap.size)
    (h : ∀ v' w2, w2.ownsRow base e k v' (n + m) (xs ++ ys) → w1.grownBy w2 v.ownBlock → wpList P ops Q rest (a.put o.dst v') w2) : wpList P ops Q (o :: rest) a w1 := by
  obtain ⟨i, hi, hz0, hz1, hz2⟩ := info_parts hinfo
  obtain ⟨hl, ad, cap, rfl, h2, h3, h4, h5⟩ := hx
  cases ad with
  | none =>
    have h6 := h4 rfl
    obtain rfl : m = 0 := by omega
    have h7 : ys = [] := List.eq_nil_of_length_eq_zero (by omega)
    subst h7
    subst h6
    refine wpList_append_own_none hgd s y t ho base e i k ht hi v n xs hs hown hy ?_
    exact h v w1 (by simpa using hown) ⟨rfl, rfl, rfl, Nat.le_refl _, fun _ _ _ => rfl⟩
  | some ad =>
    refine wpList_append_own _ hgd s y t ho base e i z k bytes ht hi hz0 hz1 hz2 hz hk v n xs hs hown ad m cap ys hy hl ?_ h1 (by unfold maxLen; omega) hbytes hbase ?_
    · intro j u hj
      have hj' := (List.getElem?_eq_some_iff.1 hj).1
      have hm : 0 < m := by
        rcases Nat.eq_zero_or_pos m with e | e
        · subst e; omega
        · exact e
      obtain ⟨b, off, h6, _, h8⟩ := h5 hm
      cases h6
      rw [add_plain']
      exact h8 j u hj
    · intro v' w2 h8 h9 _
      exact h v' w2 h8 h9
section
variable {S : Nat → Prop} {w0 W : World} {g off c n : Nat} {l : List Nd} {f : Nat → Bool} {t : Nat → Value}
end
def ShrP (S : Nat → Prop) (l : List Nd) (w : World) (e : Ending) (w' : World) : Prop := ∃ v', e = .returned v' ∧ RepN (fun b => S b ∨ (w.heap.size ≤ b ∧ b < w'.heap.size)) w' v' l ∧ Below w.heap.size w w'
end Go.Proofs.YteefodibpjgicaaGreat
