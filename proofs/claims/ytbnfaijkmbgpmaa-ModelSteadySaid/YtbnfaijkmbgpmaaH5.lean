/- Texts joined: Mod1, Ref06, Ref05g, Ref05h, Math4, Wr1, Tok1, Tok2, Tok3, Tok4, Tok5, Shelf5, Tok6, Con, Tok7, Tok8, Tok9, Tok10, AnyInv, Region, Tok11, Tok12. -/
import Derived.Deep.RegionHeld3
import Derived.Deep.AppendLies
import Derived.Test.YtbnfaijkmbgpmaaRows
import Derived.Shelf.Strings.Builder1
import Derived.Shelf.Small.Strs
import Derived.Shelf.Strings.BuilderF
import Derived.Shelf.Strings.BuilderK
import Derived.Shelf.Strings.BuilderRune
import Derived.Shelf.LaysM
import Derived.Shelf.Strconv.Clone
import Derived.Shelf.Strings.Search1
import Derived.Shelf.Strings.Search2
import Derived.Shelf.Strings.Search3
import Derived.Shelf.Strings.Cut
import Derived.Shelf.Strings.Shaped
import Derived.Shelf.Strings.Prefix
import Derived.Maps.OwnSet
import Derived.Maps.AppendAt
import Derived.OrdersIn
import Derived.StillTail
import Derived.RegionTactic
import Derived.Test.YtbnfaijkmbgpmaaH1
import Derived.Test.YtbnfaijkmbgpmaaH2
import Derived.Test.YtbnfaijkmbgpmaaH3
import Derived.Test.YtbnfaijkmbgpmaaH4
/- Rows of texts: slices.Index and slices.Contains; a map of lists that a call makes; what closes what. -/
namespace Go.Proofs.Ytbnfaijkmbgpmaa
open Go.RowKit Go.Maps Go.WideShapes

/-- The slice v reads in w as the texts l. -/
def Txs (S : Nat → Prop) (w : World) (v : Value) (l : List ByteArray) : Prop := Row S w 1 v l.length (l.flatMap fun s => [.string s])

def hasT (s : ByteArray) (l : List ByteArray) : Bool := l.any fun t => s.toList == t.toList

theorem hasT_drop (s : ByteArray) (l : List ByteArray) (i : Nat) (h : i < l.length) : hasT s (l.drop i) = ((s.toList == l[i].toList) || hasT s (l.drop (i + 1))) := by
  rw [List.drop_eq_getElem_cons h]; rfl

set_option maxHeartbeats 1000000 in
theorem slIndex (S : Nat → Prop) (v : Value) (s : ByteArray) (l : List ByteArray) (w : World) (hr : Txs S w v l) :
    Calls Try.prog 47 #[v, .string s] w fun e w' => (∃ z : Int, e = .returned (.int .i64 z) ∧ decide (0 ≤ z) = hasT s l) ∧ w = w' := by
  obtain ⟨a, cap, rfl⟩ := Row.slice hr
  obtain ⟨_, hlc, hcm⟩ := Row.len hr
  have h0 : Hid (hasT s l = hasT s (l.drop 0)) := rfl
  obtain ⟨wo, rfl⟩ : ∃ wo : World, wo = w := ⟨_, rfl⟩
  go_enter Try.func47, Try.ntmps47
  go_wp2_with fail
  go_loopw [5, 8] (fun _ u8 wr => wo = wr ∧ ∃ i : Nat, i ≤ l.length ∧ u8 = .int .i64 (i : Int) ∧ Hid (hasT s l = hasT s (l.drop i))) (fun _ u8 _ => l.length - (intOf u8).toNat)
  case atStart => exact ⟨rfl, 0, by omega, rfl, h0⟩
  case round =>
    obtain ⟨rfl, i, hi, rfl, hv⟩ := hrel
    by_cases hlt : i < l.length
    · obtain ⟨b, off, rfl, _, c0⟩ := Row.atS hr i hlt
      have hd := hv.out.trans (hasT_drop s l i hlt)
      clear hv
      cases ht : (s.toList == l[i].toList)
      · rw [ht, Bool.false_or] at hd
        replace hd := Lib.hid hd
        generalize l[i] = t at *
        go_wp2_with fail
        go_roundw
        case rel => exact ⟨trivial, i + 1, by omega, by go_num, hd⟩
        case measure => exact meas_nat hlt
      · rw [ht, Bool.true_or] at hd
        replace hd := Lib.hid hd
        generalize l[i] = t at *
        go_wp2_with fail
        go_ret
        exact ⟨⟨_, rfl, by rw [hd.out]; simp⟩, rfl⟩
    · obtain rfl : i = l.length := by omega
      have hd := hv.out
      rw [List.drop_length] at hd
      replace hd := Lib.hid hd
      clear hv
      go_wp2_with fail
      go_ret
      exact ⟨⟨_, rfl, by rw [hd.out]; rfl⟩, rfl⟩

theorem slContains (S : Nat → Prop) (v : Value) (s : ByteArray) (l : List ByteArray) (w : World) (hr : Txs S w v l) :
    Calls Try.prog 27 #[v, .string s] w fun e w' => e = .returned (.bool (hasT s l)) ∧ w = w' := by
  have hI := Lib.hid (slIndex S v s l w hr)
  obtain ⟨wo, rfl⟩ : ∃ wo : World, wo = w := ⟨_, rfl⟩
  go_enter Try.func27, Try.ntmps27
  go_wp2_with fail
  refine hI.out.mono ?_
  rintro e w1 ⟨⟨z, rfl, hz⟩, rfl⟩
  replace hz := Lib.hid hz
  go_wp2_with fail
  go_ret
  exact ⟨by rw [← hz.out]; rfl, rfl⟩


/-- An element of the map: itself. -/
abbrev heldR : Value → Option (DataW Value × List MemPlace) := fun v => some (.held v, [])

theorem Txs.keep {S S' : Nat → Prop} {w w' : World} {v : Value} {l : List ByteArray} (h : Txs S w v l) (hk : ∀ b, S b → w'.heap[b]? = w.heap[b]?) (hs : ∀ b, S b → S' b) : Txs S' w' v l := Row.mono (Row.keep h hk) hs

theorem txs_made (S : Nat → Prop) (w : World) (t : TypeId) (l : List ByteArray) (n : Nat) (hn : l.length = n) (h : n ≤ 1000) (hS : S w.heap.size) : Txs S (w.alloc (.cells (l.map Value.string).toArray t)) (.slice (some ⟨w.heap.size, 0, none⟩) n n) l := by
  subst hn
  have e : l.flatMap (fun s => [Value.string s]) = l.map Value.string := (List.map_eq_flatMap).symm
  refine ⟨by rw [e]; simp, some ⟨w.heap.size, 0, none⟩, l.length, rfl, Nat.le_refl _, by omega, (fun h => nomatch h), fun _ => ⟨w.heap.size, 0, rfl, hS, fun j u hj => ?_⟩⟩
  rw [e] at hj
  rw [World.cell?_alloc_at _ _ _ _ rfl]
  simpa using hj

def CloSt (w wa : World) (n : Nat) (D : DataW Value) : Prop := wa.ownsMap Try.prog 9 heldR w.heap.size n D ∧ Below w.heap.size w wa ∧ w.heap.size < wa.heap.size

def TxsK (w wa : World) (v : Value) (l : List ByteArray) : Prop := Txs (fun b => w.heap.size < b ∧ b < wa.heap.size) wa v l

theorem clo_step {w wa : World} {n : Nat} {D : DataW Value} (h : CloSt w wa n D) (hn : n < 100) (key : List UInt8) (hk : key.length ≤ 100) (ts : List ByteArray) (k : Nat) (hl : ts.length = k) (hl2 : k ≤ 100) :
    ∃ wb, (Instr.mapUpdate 40 (.map (some w.heap.size)) (.string ⟨key.toArray⟩) (.slice (some ⟨wa.heap.size, 0, none⟩) k k)).run Try.prog (wa.alloc (.cells (ts.map Value.string).toArray 9)) = .ok () wb ∧
      CloSt w wb (n + 1) (D.put (.string key) (.held (.slice (some ⟨wa.heap.size, 0, none⟩) k k))) ∧ TxsK w wb (.slice (some ⟨wa.heap.size, 0, none⟩) k k) ts ∧ (∀ v l, TxsK w wa v l → TxsK w wb v l) := by
  obtain ⟨ho, hb, hz⟩ := h
  have ho2 := ho.alloc (.cells (ts.map Value.string).toArray 9)
  obtain ⟨wb, r1, r2, r3⟩ := ho2.update lawS Try.underlying40 (by unfold maxLen; omega) (WideMaps.keyOf_string_mk Try.underlying9 (s := ⟨key.toArray⟩) (by unfold maxLen; show key.length ≤ _; omega)) (val := .slice (some ⟨wa.heap.size, 0, none⟩) k k) (R := heldR) rfl
  have hsz : (wa.alloc (.cells (ts.map Value.string).toArray 9)).heap.size = wa.heap.size + 1 := by simp
  have hzb := r3.size
  have hb1 := hb.alloc (by omega) (.cells (ts.map Value.string).toArray 9)
  refine ⟨wb, r1, ⟨r2, hb1.grown r3 (by omega) (fun k hk => by cases hk; exact Nat.le_refl _), by omega⟩, ?_, fun v l hv => ?_⟩
  · refine Txs.keep (txs_made (fun b => w.heap.size < b ∧ b < wa.heap.size + 1) wa 9 ts k hl (by omega) ⟨by omega, by omega⟩) (fun b hb' => ?_) (fun b h => ⟨h.1, by omega⟩)
    exact r3.block b (by omega) (by rintro e; cases e; omega)
  · refine Txs.keep hv (fun b hb' => ?_) (fun b h => ⟨h.1, by omega⟩)
    rw [r3.block b (by omega) (by rintro e; cases e; omega)]
    exact Below.heap_alloc wa _ b hb'.2

def cl_p : List ByteArray := [⟨#[98, 108, 111, 99, 107, 113, 117, 111, 116, 101]⟩, ⟨#[100, 105, 118]⟩, ⟨#[104, 49]⟩, ⟨#[104, 50]⟩, ⟨#[104, 114]⟩, ⟨#[108, 105]⟩, ⟨#[111, 108]⟩, ⟨#[112]⟩, ⟨#[112, 114, 101]⟩, ⟨#[116, 97, 98, 108, 101]⟩, ⟨#[117, 108]⟩]
def cl_li : List ByteArray := [⟨#[108, 105]⟩]
def cl_dt : List ByteArray := [⟨#[100, 100]⟩, ⟨#[100, 116]⟩]
def cl_dd : List ByteArray := [⟨#[100, 100]⟩, ⟨#[100, 116]⟩]
def cl_option : List ByteArray := [⟨#[111, 112, 116, 105, 111, 110]⟩]
def cl_td : List ByteArray := [⟨#[116, 100]⟩, ⟨#[116, 114]⟩]
def cl_tr : List ByteArray := [⟨#[116, 114]⟩]

def cloRow (v : Nat → Value) : List (Lit × DataW Value) := [(.string [112], .held (v 0)), (.string [108, 105], .held (v 1)), (.string [100, 116], .held (v 2)), (.string [100, 100], .held (v 3)), (.string [111, 112, 116, 105, 111, 110], .held (v 4)), (.string [116, 100], .held (v 5)), (.string [116, 114], .held (v 6))]
/-- Block b is the map of what closes what. -/
def Clo (w : World) (b : Nat) : Prop := ∃ v : Nat → Value, w.ownsMap Try.prog 9 heldR b 7 (rowD (cloRow v) (.map [])) ∧ Txs (fun b => b < w.heap.size) w (v 0) cl_p ∧ Txs (fun b => b < w.heap.size) w (v 1) cl_li ∧ Txs (fun b => b < w.heap.size) w (v 2) cl_dt ∧ Txs (fun b => b < w.heap.size) w (v 3) cl_dd ∧ Txs (fun b => b < w.heap.size) w (v 4) cl_option ∧ Txs (fun b => b < w.heap.size) w (v 5) cl_td ∧ Txs (fun b => b < w.heap.size) w (v 6) cl_tr

set_option maxHeartbeats 4000000 in
theorem modClosers (w : World) : Calls Try.prog 26 #[] w fun e w' => ∃ b, e = .returned (.map (some b)) ∧ Clo w' b ∧ Below w.heap.size w w' := by
  have b0 := (Below.refl w.heap.size w).alloc (Nat.le_refl _) (.map #[] 0)
  have c0 : CloSt w (w.alloc (.map #[] 0)) 0 (.map []) := ⟨World.ownsMap_made w Try.prog 9 heldR, b0, by simp⟩
  have hmm := @run_makeMap Try.prog 40 w
  clear b0
  generalize w.alloc (.map #[] 0) = w0 at *
  obtain ⟨w1, r1, c1, t1, k1⟩ := clo_step c0 (by decide) [112] (by decide) cl_p 11 rfl (by decide)
  simp only [cl_p, List.map_cons, List.map_nil] at r1
  obtain ⟨w2, r2, c2, t2, k2⟩ := clo_step c1 (by decide) [108, 105] (by decide) cl_li 1 rfl (by decide)
  simp only [cl_li, List.map_cons, List.map_nil] at r2
  obtain ⟨w3, r3, c3, t3, k3⟩ := clo_step c2 (by decide) [100, 116] (by decide) cl_dt 2 rfl (by decide)
  simp only [cl_dt, List.map_cons, List.map_nil] at r3
  obtain ⟨w4, r4, c4, t4, k4⟩ := clo_step c3 (by decide) [100, 100] (by decide) cl_dd 2 rfl (by decide)
  simp only [cl_dd, List.map_cons, List.map_nil] at r4
  obtain ⟨w5, r5, c5, t5, k5⟩ := clo_step c4 (by decide) [111, 112, 116, 105, 111, 110] (by decide) cl_option 1 rfl (by decide)
  simp only [cl_option, List.map_cons, List.map_nil] at r5
  obtain ⟨w6, r6, c6, t6, k6⟩ := clo_step c5 (by decide) [116, 100] (by decide) cl_td 2 rfl (by decide)
  simp only [cl_td, List.map_cons, List.map_nil] at r6
  obtain ⟨w7, r7, c7, t7, k7⟩ := clo_step c6 (by decide) [116, 114] (by decide) cl_tr 1 rfl (by decide)
  simp only [cl_tr, List.map_cons, List.map_nil] at r7
  have q0 := k7 _ _ (k6 _ _ (k5 _ _ (k4 _ _ (k3 _ _ (k2 _ _ (t1))))))
  have q1 := k7 _ _ (k6 _ _ (k5 _ _ (k4 _ _ (k3 _ _ (t2)))))
  have q2 := k7 _ _ (k6 _ _ (k5 _ _ (k4 _ _ (t3))))
  have q3 := k7 _ _ (k6 _ _ (k5 _ _ (t4)))
  have q4 := k7 _ _ (k6 _ _ (t5))
  have q5 := k7 _ _ (t6)
  have q6 := t7
  have hz := c7.2.2
  have hB := Lib.hid c7.2.1
  have hC : Hid (Clo w7 w.heap.size) := Lib.hid ⟨fun i => match i with | 0 => .slice (some ⟨w0.heap.size, 0, none⟩) 11 11 | 1 => .slice (some ⟨w1.heap.size, 0, none⟩) 1 1 | 2 => .slice (some ⟨w2.heap.size, 0, none⟩) 2 2 | 3 => .slice (some ⟨w3.heap.size, 0, none⟩) 2 2 | 4 => .slice (some ⟨w4.heap.size, 0, none⟩) 1 1 | 5 => .slice (some ⟨w5.heap.size, 0, none⟩) 2 2 | 6 => .slice (some ⟨w6.heap.size, 0, none⟩) 1 1 | _ => undef, c7.1, Txs.keep q0 (fun _ _ => rfl) (fun b h => h.2), Txs.keep q1 (fun _ _ => rfl) (fun b h => h.2), Txs.keep q2 (fun _ _ => rfl) (fun b h => h.2), Txs.keep q3 (fun _ _ => rfl) (fun b h => h.2), Txs.keep q4 (fun _ _ => rfl) (fun b h => h.2), Txs.keep q5 (fun _ _ => rfl) (fun b h => h.2), Txs.keep q6 (fun _ _ => rfl) (fun b h => h.2)⟩
  clear c0 c1 c2 c3 c4 c5 c6 c7 t1 t2 t3 t4 t5 t6 t7 k1 k2 k3 k4 k5 k6 k7 q0 q1 q2 q3 q4 q5 q6
  go_enter Try.func26, Try.ntmps26
  go_wp2
  go_ret
  exact ⟨_, rfl, hC.out, hB.out⟩

def closedT (o : List UInt8) : List ByteArray :=
  if o = [112] then cl_p else if o = [108, 105] then cl_li else if o = [100, 116] then cl_dt else if o = [100, 100] then cl_dd else if o = [111, 112, 116, 105, 111, 110] then cl_option else if o = [116, 100] then cl_td else if o = [116, 114] then cl_tr else []
theorem closedT_map (o : List UInt8) : closedT o = (M6.closedL o).map fun l => ⟨l.toArray⟩ := by
  unfold closedT M6.closedL
  by_cases h_p : o = [112]
  · subst h_p; rfl
  by_cases h_li : o = [108, 105]
  · subst h_li; rfl
  by_cases h_dt : o = [100, 116]
  · subst h_dt; rfl
  by_cases h_dd : o = [100, 100]
  · subst h_dd; rfl
  by_cases h_option : o = [111, 112, 116, 105, 111, 110]
  · subst h_option; rfl
  by_cases h_td : o = [116, 100]
  · subst h_td; rfl
  by_cases h_tr : o = [116, 114]
  · subst h_tr; rfl
  simp only [h_p, h_li, h_dt, h_dd, h_option, h_td, h_tr, if_false, or_self]
  rfl

theorem hasT_map (s : ByteArray) (l : List (List UInt8)) : hasT s (l.map fun x => ⟨x.toArray⟩) = l.contains s.data.toList := by
  induction l with
  | nil => rfl
  | cons x r ih =>
    rw [List.map_cons, List.contains_cons, ← ih]
    show ((s.toList == (⟨x.toArray⟩ : ByteArray).toList) || hasT s _) = _
    rw [Lib.toList_data, Lib.toList_data]

theorem hasT_closed (s : ByteArray) (o : List UInt8) : hasT s (closedT o) = M6.closesB o s.data.toList := by
  rw [closedT_map, hasT_map]; rfl

theorem clo_look {w : World} {b : Nat} (h : Clo w b) (s : ByteArray) (hs : s.size ≤ 9223372036854775807) :
    ∃ v, (Instr.lookup 40 (.map (some b)) (.string s) false).run Try.prog w = .ok v w ∧ Txs (fun b => b < w.heap.size) w v (closedT s.data.toList) := by
  obtain ⟨v, ho, t0, t1, t2, t3, t4, t5, t6⟩ := h
  obtain ⟨x, ps, hr, hx⟩ := ho.lookup lawS Try.underlying40 (z := .slice none 0 0) (Try.zeroValue22 _) (R := heldR) rfl (WideMaps.keyOf_string_mk Try.underlying9 (s := s) (by unfold maxLen; omega))
  refine ⟨x, hr, ?_⟩
  have hx1 : DataW.held x = (rowD (cloRow v) (.map [])).atKey (.string s.data.toList) (.held (.slice none 0 0)) := by
    have := hx
    simp only [heldR, Option.some.injEq, Prod.mk.injEq] at this
    exact this.1
  have hk : ∀ p ∈ cloRow v, WideAt.IsKeyLit p.1 := by
    intro p hp
    simp only [cloRow, List.mem_cons, List.not_mem_nil, or_false] at hp
    rcases hp with rfl | rfl | rfl | rfl | rfl | rfl | rfl <;> exact trivial
  have hd : (cloRow v).Pairwise (fun p q => p.1 ≠ q.1) := by simp [cloRow]
  have hat := fun p hp => rowD_at (cloRow v) (.map []) (.held (.slice none 0 0)) p isMap_empty hk hd hp
  unfold closedT

  by_cases h_p : s.data.toList = [112]
  · have hp := hat (.string [112], .held (v 0)) (by simp [cloRow])
    rw [h_p, hp] at hx1
    cases hx1
    rw [h_p]
    exact t0
  by_cases h_li : s.data.toList = [108, 105]
  · have hp := hat (.string [108, 105], .held (v 1)) (by simp [cloRow])
    rw [h_li, hp] at hx1
    cases hx1
    rw [h_li]
    exact t1
  by_cases h_dt : s.data.toList = [100, 116]
  · have hp := hat (.string [100, 116], .held (v 2)) (by simp [cloRow])
    rw [h_dt, hp] at hx1
    cases hx1
    rw [h_dt]
    exact t2
  by_cases h_dd : s.data.toList = [100, 100]
  · have hp := hat (.string [100, 100], .held (v 3)) (by simp [cloRow])
    rw [h_dd, hp] at hx1
    cases hx1
    rw [h_dd]
    exact t3
  by_cases h_option : s.data.toList = [111, 112, 116, 105, 111, 110]
  · have hp := hat (.string [111, 112, 116, 105, 111, 110], .held (v 4)) (by simp [cloRow])
    rw [h_option, hp] at hx1
    cases hx1
    rw [h_option]
    exact t4
  by_cases h_td : s.data.toList = [116, 100]
  · have hp := hat (.string [116, 100], .held (v 5)) (by simp [cloRow])
    rw [h_td, hp] at hx1
    cases hx1
    rw [h_td]
    exact t5
  by_cases h_tr : s.data.toList = [116, 114]
  · have hp := hat (.string [116, 114], .held (v 6)) (by simp [cloRow])
    rw [h_tr, hp] at hx1
    cases hx1
    rw [h_tr]
    exact t6
  · rw [rowD_other (cloRow v) _ _ _ (by intro p hp; simp only [cloRow, List.mem_cons, List.not_mem_nil, or_false] at hp; rcases hp with rfl | rfl | rfl | rfl | rfl | rfl | rfl <;> (intro e; simp only [Lit.string.injEq] at e; exact absurd e.symm (by assumption)))] at hx1
    have e : x = .slice none 0 0 := by cases hx1; rfl
    rw [e, if_neg h_p, if_neg h_li, if_neg h_dt, if_neg h_dd, if_neg h_option, if_neg h_td, if_neg h_tr]
    exact Row.nil _ _ _

set_option maxHeartbeats 1000000 in
theorem modCloses (o b : ByteArray) (w : World) (ho : o.size ≤ 9223372036854775807) : Calls Try.prog 10 #[.string o, .string b] w fun e w' => e = .returned (.bool (M6.closesB o.data.toList b.data.toList)) ∧ Below w.heap.size w w' := by
  have hC := Lib.hid (modClosers w)
  have hL := Lib.hid (fun (w1 : World) (m : Nat) (h : Clo w1 m) => clo_look h o ho)
  rw [← hasT_closed]
  obtain ⟨wo, rfl⟩ : ∃ wo : World, wo = w := ⟨_, rfl⟩
  go_enter Try.func10, Try.ntmps10
  go_wp2_with fail
  refine hC.out.mono ?_
  rintro e w1 ⟨m, rfl, hc, hb⟩
  obtain ⟨v, r, ht⟩ := hL.out w1 m hc
  have hK := Lib.hid (slContains _ v b _ w1 ht)
  go_wp2_with fail
  refine hK.out.mono ?_
  rintro e w2 ⟨rfl, rfl⟩
  go_wp2_with fail
  go_ret
  exact ⟨rfl, hb⟩

end Go.Proofs.Ytbnfaijkmbgpmaa

/- Reference 6: what closes what; has; fits. -/
namespace Go.Proofs.Ytbnfaijkmbgpmaa
open Go.RowKit

theorem beq_flip (a b : List UInt8) : (a == b) = (b == a) := by
  rw [Bool.eq_iff_iff]; simp only [beq_iff_eq]; exact eq_comm

set_option maxHeartbeats 4000000 in
theorem ref06Closes (o b : ByteArray) (w : World) : Calls Try.prog 12 #[.string o, .string b] w fun e w' => e = .returned (.bool (M6.closesB o.data.toList b.data.toList)) ∧ Below w.heap.size w w' := by
  rw [← hasT_closed]
  have hl8 : (closedT o.data.toList).length ≤ 11 := by
    unfold closedT
    repeat' split
    all_goals decide
  obtain ⟨wo, rfl⟩ : ∃ wo : World, wo = w := ⟨_, rfl⟩
  by_cases h0 : o.data.toList = [112]
  · have e0 : (o.toList == [112]) = true := by rw [Lib.toList_data, h0]; rfl
    have hr : Txs (fun b => b < wo.heap.size + 1) (wo.alloc (.cells #[.string ⟨#[98, 108, 111, 99, 107, 113, 117, 111, 116, 101]⟩, .string ⟨#[100, 105, 118]⟩, .string ⟨#[104, 49]⟩, .string ⟨#[104, 50]⟩, .string ⟨#[104, 114]⟩, .string ⟨#[108, 105]⟩, .string ⟨#[111, 108]⟩, .string ⟨#[112]⟩, .string ⟨#[112, 114, 101]⟩, .string ⟨#[116, 97, 98, 108, 101]⟩, .string ⟨#[117, 108]⟩] 9)) (.slice (some ⟨wo.heap.size, 0, none⟩) 11 11) cl_p := txs_made (fun b => b < wo.heap.size + 1) wo 9 cl_p 11 rfl (by decide) (by omega)
    have hb0 := (Below.refl wo.heap.size wo).alloc (Nat.le_refl _) (.cells #[.string ⟨#[98, 108, 111, 99, 107, 113, 117, 111, 116, 101]⟩, .string ⟨#[100, 105, 118]⟩, .string ⟨#[104, 49]⟩, .string ⟨#[104, 50]⟩, .string ⟨#[104, 114]⟩, .string ⟨#[108, 105]⟩, .string ⟨#[111, 108]⟩, .string ⟨#[112]⟩, .string ⟨#[112, 114, 101]⟩, .string ⟨#[116, 97, 98, 108, 101]⟩, .string ⟨#[117, 108]⟩] 9)
    have hcl : closedT o.data.toList = cl_p := by rw [h0]; rfl
    rw [← hcl] at hr
    clear hcl h0
    generalize closedT o.data.toList = l at *
    have hn : Hid (11 = l.length) := Lib.hid (Row.len hr).1
    have h0 : Hid (hasT b l = hasT b (l.drop 0)) := rfl
    replace hb0 := Lib.hid hb0
    go_enter Try.func12, Try.ntmps12
    go_wp2_with fail
    obtain ⟨W, hW⟩ : ∃ W, wo.alloc (.cells #[.string ⟨#[98, 108, 111, 99, 107, 113, 117, 111, 116, 101]⟩, .string ⟨#[100, 105, 118]⟩, .string ⟨#[104, 49]⟩, .string ⟨#[104, 50]⟩, .string ⟨#[104, 114]⟩, .string ⟨#[108, 105]⟩, .string ⟨#[111, 108]⟩, .string ⟨#[112]⟩, .string ⟨#[112, 114, 101]⟩, .string ⟨#[116, 97, 98, 108, 101]⟩, .string ⟨#[117, 108]⟩] 9) = W := ⟨_, rfl⟩
    rw [hW] at hr hb0 ⊢
    clear hW
    go_loopw [6] (fun u6 wr => W = wr ∧ ∃ i : Nat, i ≤ 11 ∧ u6 = .int .i64 (i : Int) ∧ Hid (hasT b l = hasT b (l.drop i))) (fun u6 _ => 11 - (intOf u6).toNat)
    case atStart => exact ⟨rfl, 0, by omega, rfl, h0⟩
    case round =>
      obtain ⟨rfl, i, hi, rfl, hv⟩ := hrel
      by_cases hlt : i < 11
      · have hl2 : i < l.length := by have := hn.out; omega
        obtain ⟨g, off, ea, _, c0⟩ := Row.atS hr i hl2
        cases ea
        simp only [Nat.zero_add] at c0
        have hd := hv.out.trans (hasT_drop b l i hl2)
        clear hv
        rw [beq_flip] at hd
        cases ht : (l[i].toList == b.toList)
        · rw [ht, Bool.false_or] at hd
          replace hd := Lib.hid hd
          generalize l[i] = t at *
          go_wp2_with fail
          go_roundw
          case rel => exact ⟨trivial, i + 1, by omega, by go_num, hd⟩
          case measure => exact meas_nat hlt
        · rw [ht, Bool.true_or] at hd
          replace hd := Lib.hid hd
          generalize l[i] = t at *
          go_wp2_with fail
          go_ret
          exact ⟨by rw [hd.out]; rfl, hb0.out⟩
      · obtain rfl : i = 11 := by omega
        have hd := hv.out
        rw [List.drop_of_length_le (by have := hn.out; omega)] at hd
        replace hd := Lib.hid hd
        clear hv
        go_wp2_with fail
        go_ret
        exact ⟨by rw [hd.out]; rfl, hb0.out⟩
  have e0 : (o.toList == [112]) = false := by rw [Lib.toList_data, beq_eq_false_iff_ne]; exact h0
  by_cases h1 : o.data.toList = [108, 105]
  · have e1 : (o.toList == [108, 105]) = true := by rw [Lib.toList_data, h1]; rfl
    have hr : Txs (fun b => b < wo.heap.size + 1) (wo.alloc (.cells #[.string ⟨#[108, 105]⟩] 9)) (.slice (some ⟨wo.heap.size, 0, none⟩) 1 1) cl_li := txs_made (fun b => b < wo.heap.size + 1) wo 9 cl_li 1 rfl (by decide) (by omega)
    have hb0 := (Below.refl wo.heap.size wo).alloc (Nat.le_refl _) (.cells #[.string ⟨#[108, 105]⟩] 9)
    have hcl : closedT o.data.toList = cl_li := by rw [h1]; rfl
    rw [← hcl] at hr
    clear hcl h1
    generalize closedT o.data.toList = l at *
    have hn : Hid (1 = l.length) := Lib.hid (Row.len hr).1
    have h0 : Hid (hasT b l = hasT b (l.drop 0)) := rfl
    replace hb0 := Lib.hid hb0
    go_enter Try.func12, Try.ntmps12
    go_wp2_with fail
    obtain ⟨W, hW⟩ : ∃ W, wo.alloc (.cells #[.string ⟨#[108, 105]⟩] 9) = W := ⟨_, rfl⟩
    rw [hW] at hr hb0 ⊢
    clear hW
    go_loopw [6] (fun u6 wr => W = wr ∧ ∃ i : Nat, i ≤ 1 ∧ u6 = .int .i64 (i : Int) ∧ Hid (hasT b l = hasT b (l.drop i))) (fun u6 _ => 1 - (intOf u6).toNat)
    case atStart => exact ⟨rfl, 0, by omega, rfl, h0⟩
    case round =>
      obtain ⟨rfl, i, hi, rfl, hv⟩ := hrel
      by_cases hlt : i < 1
      · have hl2 : i < l.length := by have := hn.out; omega
        obtain ⟨g, off, ea, _, c0⟩ := Row.atS hr i hl2
        cases ea
        simp only [Nat.zero_add] at c0
        have hd := hv.out.trans (hasT_drop b l i hl2)
        clear hv
        rw [beq_flip] at hd
        cases ht : (l[i].toList == b.toList)
        · rw [ht, Bool.false_or] at hd
          replace hd := Lib.hid hd
          generalize l[i] = t at *
          go_wp2_with fail
          go_roundw
          case rel => exact ⟨trivial, i + 1, by omega, by go_num, hd⟩
          case measure => exact meas_nat hlt
        · rw [ht, Bool.true_or] at hd
          replace hd := Lib.hid hd
          generalize l[i] = t at *
          go_wp2_with fail
          go_ret
          exact ⟨by rw [hd.out]; rfl, hb0.out⟩
      · obtain rfl : i = 1 := by omega
        have hd := hv.out
        rw [List.drop_of_length_le (by have := hn.out; omega)] at hd
        replace hd := Lib.hid hd
        clear hv
        go_wp2_with fail
        go_ret
        exact ⟨by rw [hd.out]; rfl, hb0.out⟩
  have e1 : (o.toList == [108, 105]) = false := by rw [Lib.toList_data, beq_eq_false_iff_ne]; exact h1
  by_cases h2 : o.data.toList = [100, 116]
  · have e2 : (o.toList == [100, 116]) = true := by rw [Lib.toList_data, h2]; rfl
    have hr : Txs (fun b => b < wo.heap.size + 1) (wo.alloc (.cells #[.string ⟨#[100, 100]⟩, .string ⟨#[100, 116]⟩] 9)) (.slice (some ⟨wo.heap.size, 0, none⟩) 2 2) cl_dt := txs_made (fun b => b < wo.heap.size + 1) wo 9 cl_dt 2 rfl (by decide) (by omega)
    have hb0 := (Below.refl wo.heap.size wo).alloc (Nat.le_refl _) (.cells #[.string ⟨#[100, 100]⟩, .string ⟨#[100, 116]⟩] 9)
    have hcl : closedT o.data.toList = cl_dt := by rw [h2]; rfl
    rw [← hcl] at hr
    clear hcl h2
    generalize closedT o.data.toList = l at *
    have hn : Hid (2 = l.length) := Lib.hid (Row.len hr).1
    have h0 : Hid (hasT b l = hasT b (l.drop 0)) := rfl
    replace hb0 := Lib.hid hb0
    go_enter Try.func12, Try.ntmps12
    go_wp2_with fail
    obtain ⟨W, hW⟩ : ∃ W, wo.alloc (.cells #[.string ⟨#[100, 100]⟩, .string ⟨#[100, 116]⟩] 9) = W := ⟨_, rfl⟩
    rw [hW] at hr hb0 ⊢
    clear hW
    go_loopw [6] (fun u6 wr => W = wr ∧ ∃ i : Nat, i ≤ 2 ∧ u6 = .int .i64 (i : Int) ∧ Hid (hasT b l = hasT b (l.drop i))) (fun u6 _ => 2 - (intOf u6).toNat)
    case atStart => exact ⟨rfl, 0, by omega, rfl, h0⟩
    case round =>
      obtain ⟨rfl, i, hi, rfl, hv⟩ := hrel
      by_cases hlt : i < 2
      · have hl2 : i < l.length := by have := hn.out; omega
        obtain ⟨g, off, ea, _, c0⟩ := Row.atS hr i hl2
        cases ea
        simp only [Nat.zero_add] at c0
        have hd := hv.out.trans (hasT_drop b l i hl2)
        clear hv
        rw [beq_flip] at hd
        cases ht : (l[i].toList == b.toList)
        · rw [ht, Bool.false_or] at hd
          replace hd := Lib.hid hd
          generalize l[i] = t at *
          go_wp2_with fail
          go_roundw
          case rel => exact ⟨trivial, i + 1, by omega, by go_num, hd⟩
          case measure => exact meas_nat hlt
        · rw [ht, Bool.true_or] at hd
          replace hd := Lib.hid hd
          generalize l[i] = t at *
          go_wp2_with fail
          go_ret
          exact ⟨by rw [hd.out]; rfl, hb0.out⟩
      · obtain rfl : i = 2 := by omega
        have hd := hv.out
        rw [List.drop_of_length_le (by have := hn.out; omega)] at hd
        replace hd := Lib.hid hd
        clear hv
        go_wp2_with fail
        go_ret
        exact ⟨by rw [hd.out]; rfl, hb0.out⟩
  have e2 : (o.toList == [100, 116]) = false := by rw [Lib.toList_data, beq_eq_false_iff_ne]; exact h2
  by_cases h3 : o.data.toList = [100, 100]
  · have e3 : (o.toList == [100, 100]) = true := by rw [Lib.toList_data, h3]; rfl
    have hr : Txs (fun b => b < wo.heap.size + 1) (wo.alloc (.cells #[.string ⟨#[100, 100]⟩, .string ⟨#[100, 116]⟩] 9)) (.slice (some ⟨wo.heap.size, 0, none⟩) 2 2) cl_dd := txs_made (fun b => b < wo.heap.size + 1) wo 9 cl_dd 2 rfl (by decide) (by omega)
    have hb0 := (Below.refl wo.heap.size wo).alloc (Nat.le_refl _) (.cells #[.string ⟨#[100, 100]⟩, .string ⟨#[100, 116]⟩] 9)
    have hcl : closedT o.data.toList = cl_dd := by rw [h3]; rfl
    rw [← hcl] at hr
    clear hcl h3
    generalize closedT o.data.toList = l at *
    have hn : Hid (2 = l.length) := Lib.hid (Row.len hr).1
    have h0 : Hid (hasT b l = hasT b (l.drop 0)) := rfl
    replace hb0 := Lib.hid hb0
    go_enter Try.func12, Try.ntmps12
    go_wp2_with fail
    obtain ⟨W, hW⟩ : ∃ W, wo.alloc (.cells #[.string ⟨#[100, 100]⟩, .string ⟨#[100, 116]⟩] 9) = W := ⟨_, rfl⟩
    rw [hW] at hr hb0 ⊢
    clear hW
    go_loopw [6] (fun u6 wr => W = wr ∧ ∃ i : Nat, i ≤ 2 ∧ u6 = .int .i64 (i : Int) ∧ Hid (hasT b l = hasT b (l.drop i))) (fun u6 _ => 2 - (intOf u6).toNat)
    case atStart => exact ⟨rfl, 0, by omega, rfl, h0⟩
    case round =>
      obtain ⟨rfl, i, hi, rfl, hv⟩ := hrel
      by_cases hlt : i < 2
      · have hl2 : i < l.length := by have := hn.out; omega
        obtain ⟨g, off, ea, _, c0⟩ := Row.atS hr i hl2
        cases ea
        simp only [Nat.zero_add] at c0
        have hd := hv.out.trans (hasT_drop b l i hl2)
        clear hv
        rw [beq_flip] at hd
        cases ht : (l[i].toList == b.toList)
        · rw [ht, Bool.false_or] at hd
          replace hd := Lib.hid hd
          generalize l[i] = t at *
          go_wp2_with fail
          go_roundw
          case rel => exact ⟨trivial, i + 1, by omega, by go_num, hd⟩
          case measure => exact meas_nat hlt
        · rw [ht, Bool.true_or] at hd
          replace hd := Lib.hid hd
          generalize l[i] = t at *
          go_wp2_with fail
          go_ret
          exact ⟨by rw [hd.out]; rfl, hb0.out⟩
      · obtain rfl : i = 2 := by omega
        have hd := hv.out
        rw [List.drop_of_length_le (by have := hn.out; omega)] at hd
        replace hd := Lib.hid hd
        clear hv
        go_wp2_with fail
        go_ret
        exact ⟨by rw [hd.out]; rfl, hb0.out⟩
  have e3 : (o.toList == [100, 100]) = false := by rw [Lib.toList_data, beq_eq_false_iff_ne]; exact h3
  by_cases h4 : o.data.toList = [111, 112, 116, 105, 111, 110]
  · have e4 : (o.toList == [111, 112, 116, 105, 111, 110]) = true := by rw [Lib.toList_data, h4]; rfl
    have hr : Txs (fun b => b < wo.heap.size + 1) (wo.alloc (.cells #[.string ⟨#[111, 112, 116, 105, 111, 110]⟩] 9)) (.slice (some ⟨wo.heap.size, 0, none⟩) 1 1) cl_option := txs_made (fun b => b < wo.heap.size + 1) wo 9 cl_option 1 rfl (by decide) (by omega)
    have hb0 := (Below.refl wo.heap.size wo).alloc (Nat.le_refl _) (.cells #[.string ⟨#[111, 112, 116, 105, 111, 110]⟩] 9)
    have hcl : closedT o.data.toList = cl_option := by rw [h4]; rfl
    rw [← hcl] at hr
    clear hcl h4
    generalize closedT o.data.toList = l at *
    have hn : Hid (1 = l.length) := Lib.hid (Row.len hr).1
    have h0 : Hid (hasT b l = hasT b (l.drop 0)) := rfl
    replace hb0 := Lib.hid hb0
    go_enter Try.func12, Try.ntmps12
    go_wp2_with fail
    obtain ⟨W, hW⟩ : ∃ W, wo.alloc (.cells #[.string ⟨#[111, 112, 116, 105, 111, 110]⟩] 9) = W := ⟨_, rfl⟩
    rw [hW] at hr hb0 ⊢
    clear hW
    go_loopw [6] (fun u6 wr => W = wr ∧ ∃ i : Nat, i ≤ 1 ∧ u6 = .int .i64 (i : Int) ∧ Hid (hasT b l = hasT b (l.drop i))) (fun u6 _ => 1 - (intOf u6).toNat)
    case atStart => exact ⟨rfl, 0, by omega, rfl, h0⟩
    case round =>
      obtain ⟨rfl, i, hi, rfl, hv⟩ := hrel
      by_cases hlt : i < 1
      · have hl2 : i < l.length := by have := hn.out; omega
        obtain ⟨g, off, ea, _, c0⟩ := Row.atS hr i hl2
        cases ea
        simp only [Nat.zero_add] at c0
        have hd := hv.out.trans (hasT_drop b l i hl2)
        clear hv
        rw [beq_flip] at hd
        cases ht : (l[i].toList == b.toList)
        · rw [ht, Bool.false_or] at hd
          replace hd := Lib.hid hd
          generalize l[i] = t at *
          go_wp2_with fail
          go_roundw
          case rel => exact ⟨trivial, i + 1, by omega, by go_num, hd⟩
          case measure => exact meas_nat hlt
        · rw [ht, Bool.true_or] at hd
          replace hd := Lib.hid hd
          generalize l[i] = t at *
          go_wp2_with fail
          go_ret
          exact ⟨by rw [hd.out]; rfl, hb0.out⟩
      · obtain rfl : i = 1 := by omega
        have hd := hv.out
        rw [List.drop_of_length_le (by have := hn.out; omega)] at hd
        replace hd := Lib.hid hd
        clear hv
        go_wp2_with fail
        go_ret
        exact ⟨by rw [hd.out]; rfl, hb0.out⟩
  have e4 : (o.toList == [111, 112, 116, 105, 111, 110]) = false := by rw [Lib.toList_data, beq_eq_false_iff_ne]; exact h4
  by_cases h5 : o.data.toList = [116, 100]
  · have e5 : (o.toList == [116, 100]) = true := by rw [Lib.toList_data, h5]; rfl
    have hr : Txs (fun b => b < wo.heap.size + 1) (wo.alloc (.cells #[.string ⟨#[116, 100]⟩, .string ⟨#[116, 114]⟩] 9)) (.slice (some ⟨wo.heap.size, 0, none⟩) 2 2) cl_td := txs_made (fun b => b < wo.heap.size + 1) wo 9 cl_td 2 rfl (by decide) (by omega)
    have hb0 := (Below.refl wo.heap.size wo).alloc (Nat.le_refl _) (.cells #[.string ⟨#[116, 100]⟩, .string ⟨#[116, 114]⟩] 9)
    have hcl : closedT o.data.toList = cl_td := by rw [h5]; rfl
    rw [← hcl] at hr
    clear hcl h5
    generalize closedT o.data.toList = l at *
    have hn : Hid (2 = l.length) := Lib.hid (Row.len hr).1
    have h0 : Hid (hasT b l = hasT b (l.drop 0)) := rfl
    replace hb0 := Lib.hid hb0
    go_enter Try.func12, Try.ntmps12
    go_wp2_with fail
    obtain ⟨W, hW⟩ : ∃ W, wo.alloc (.cells #[.string ⟨#[116, 100]⟩, .string ⟨#[116, 114]⟩] 9) = W := ⟨_, rfl⟩
    rw [hW] at hr hb0 ⊢
    clear hW
    go_loopw [6] (fun u6 wr => W = wr ∧ ∃ i : Nat, i ≤ 2 ∧ u6 = .int .i64 (i : Int) ∧ Hid (hasT b l = hasT b (l.drop i))) (fun u6 _ => 2 - (intOf u6).toNat)
    case atStart => exact ⟨rfl, 0, by omega, rfl, h0⟩
    case round =>
      obtain ⟨rfl, i, hi, rfl, hv⟩ := hrel
      by_cases hlt : i < 2
      · have hl2 : i < l.length := by have := hn.out; omega
        obtain ⟨g, off, ea, _, c0⟩ := Row.atS hr i hl2
        cases ea
        simp only [Nat.zero_add] at c0
        have hd := hv.out.trans (hasT_drop b l i hl2)
        clear hv
        rw [beq_flip] at hd
        cases ht : (l[i].toList == b.toList)
        · rw [ht, Bool.false_or] at hd
          replace hd := Lib.hid hd
          generalize l[i] = t at *
          go_wp2_with fail
          go_roundw
          case rel => exact ⟨trivial, i + 1, by omega, by go_num, hd⟩
          case measure => exact meas_nat hlt
        · rw [ht, Bool.true_or] at hd
          replace hd := Lib.hid hd
          generalize l[i] = t at *
          go_wp2_with fail
          go_ret
          exact ⟨by rw [hd.out]; rfl, hb0.out⟩
      · obtain rfl : i = 2 := by omega
        have hd := hv.out
        rw [List.drop_of_length_le (by have := hn.out; omega)] at hd
        replace hd := Lib.hid hd
        clear hv
        go_wp2_with fail
        go_ret
        exact ⟨by rw [hd.out]; rfl, hb0.out⟩
  have e5 : (o.toList == [116, 100]) = false := by rw [Lib.toList_data, beq_eq_false_iff_ne]; exact h5
  by_cases h6 : o.data.toList = [116, 114]
  · have e6 : (o.toList == [116, 114]) = true := by rw [Lib.toList_data, h6]; rfl
    have hr : Txs (fun b => b < wo.heap.size + 1) (wo.alloc (.cells #[.string ⟨#[116, 114]⟩] 9)) (.slice (some ⟨wo.heap.size, 0, none⟩) 1 1) cl_tr := txs_made (fun b => b < wo.heap.size + 1) wo 9 cl_tr 1 rfl (by decide) (by omega)
    have hb0 := (Below.refl wo.heap.size wo).alloc (Nat.le_refl _) (.cells #[.string ⟨#[116, 114]⟩] 9)
    have hcl : closedT o.data.toList = cl_tr := by rw [h6]; rfl
    rw [← hcl] at hr
    clear hcl h6
    generalize closedT o.data.toList = l at *
    have hn : Hid (1 = l.length) := Lib.hid (Row.len hr).1
    have h0 : Hid (hasT b l = hasT b (l.drop 0)) := rfl
    replace hb0 := Lib.hid hb0
    go_enter Try.func12, Try.ntmps12
    go_wp2_with fail
    obtain ⟨W, hW⟩ : ∃ W, wo.alloc (.cells #[.string ⟨#[116, 114]⟩] 9) = W := ⟨_, rfl⟩
    rw [hW] at hr hb0 ⊢
    clear hW
    go_loopw [6] (fun u6 wr => W = wr ∧ ∃ i : Nat, i ≤ 1 ∧ u6 = .int .i64 (i : Int) ∧ Hid (hasT b l = hasT b (l.drop i))) (fun u6 _ => 1 - (intOf u6).toNat)
    case atStart => exact ⟨rfl, 0, by omega, rfl, h0⟩
    case round =>
      obtain ⟨rfl, i, hi, rfl, hv⟩ := hrel
      by_cases hlt : i < 1
      · have hl2 : i < l.length := by have := hn.out; omega
        obtain ⟨g, off, ea, _, c0⟩ := Row.atS hr i hl2
        cases ea
        simp only [Nat.zero_add] at c0
        have hd := hv.out.trans (hasT_drop b l i hl2)
        clear hv
        rw [beq_flip] at hd
        cases ht : (l[i].toList == b.toList)
        · rw [ht, Bool.false_or] at hd
          replace hd := Lib.hid hd
          generalize l[i] = t at *
          go_wp2_with fail
          go_roundw
          case rel => exact ⟨trivial, i + 1, by omega, by go_num, hd⟩
          case measure => exact meas_nat hlt
        · rw [ht, Bool.true_or] at hd
          replace hd := Lib.hid hd
          generalize l[i] = t at *
          go_wp2_with fail
          go_ret
          exact ⟨by rw [hd.out]; rfl, hb0.out⟩
      · obtain rfl : i = 1 := by omega
        have hd := hv.out
        rw [List.drop_of_length_le (by have := hn.out; omega)] at hd
        replace hd := Lib.hid hd
        clear hv
        go_wp2_with fail
        go_ret
        exact ⟨by rw [hd.out]; rfl, hb0.out⟩
  have e6 : (o.toList == [116, 114]) = false := by rw [Lib.toList_data, beq_eq_false_iff_ne]; exact h6
  have hcl : closedT o.data.toList = [] := by unfold closedT; rw [if_neg h0, if_neg h1, if_neg h2, if_neg h3, if_neg h4, if_neg h5, if_neg h6]
  rw [hcl]
  clear hcl hl8 h0 h1 h2 h3 h4 h5 h6
  go_enter Try.func12, Try.ntmps12
  go_wp2_with fail
  go_loopw [6] (fun u6 wr => wo = wr ∧ u6 = .int .i64 0) (fun u6 _ => 0)
  case atStart => exact ⟨rfl, rfl⟩
  case round =>
    obtain ⟨rfl, rfl⟩ := hrel
    go_wp2_with fail
    go_ret
    exact ⟨rfl, Below.refl _ _⟩
end Go.Proofs.Ytbnfaijkmbgpmaa

/- Reference 5: the beginning tag. -/
namespace Go.Proofs.Ytbnfaijkmbgpmaa
open Go.RowKit

theorem own_below {w w1 : World} {base k : Nat} {e : TypeId} {v : Value} {n : Nat} {xs : List Value} (h : w.ownsRow base e k v n xs) (hb : Below w.heap.size w w1) : w1.ownsRow base e k v n xs :=
  h.kept (row := none) ⟨hb.os, hb.tape, hb.output, hb.size, fun k hk _ => hb.block k hk⟩ (by cases h : v.ownBlock <;> simp)

theorem infoA5 : (Try.prog.info? 51).map (fun i => (i.zero, i.size, i.bytes)) = some (some (.agg #[.string ⟨#[]⟩, .string ⟨#[]⟩]), 2, 32) := by kernel_rfl

/-- A token made by the call, and where it goes on. -/
def TokPost (t : Tok) (n : Nat) (w : World) (e : Ending) (w' : World) : Prop := ∃ va, e = .returned (.tuple #[.agg #[.int .i64 t.kind, .string t.name, va, .string t.text], .int .i64 (n : Int)]) ∧ w'.ownsRow w.heap.size 51 2 va t.attrs.length (cellsA t.attrs) ∧ Below w.heap.size w w'

theorem own_slice5 {w : World} {B : Nat} {e : TypeId} {k n : Nat} {v : Value} {xs : List Value} (h : w.ownsRow B e k v n xs) : ∃ a c, v = .slice a n c := by
  rcases h.2 with ⟨rfl, rfl⟩ | ⟨g, cap, cur, rfl, _⟩
  · exact ⟨none, 0, rfl⟩
  · exact ⟨_, _, rfl⟩

theorem own_keep5 {w w' : World} {B : Nat} {e : TypeId} {k n : Nat} {v : Value} {xs : List Value} (h : w.ownsRow B e k v n xs) (hk : ∀ g, v.ownBlock = some g → w'.heap[g]? = w.heap[g]?) : w'.ownsRow B e k v n xs := by
  refine ⟨h.1, ?_⟩
  rcases h.2 with hn | ⟨g, cap, cur, rfl, hb, hg, rest⟩
  · exact .inl hn
  · exact .inr ⟨g, cap, cur, rfl, hb, (hk g rfl).trans hg, rest⟩

theorem below_drewN5 {B : Nat} {a w : World} (h : Below B a w) (n : Nat) : Below B a (w.drewN n) := ⟨h.os, h.tape, h.output, h.size, h.block⟩

theorem own_le {w : World} {B B' : Nat} {e : TypeId} {k n : Nat} {v : Value} {xs : List Value} (h : w.ownsRow B e k v n xs) (hb : B' ≤ B) : w.ownsRow B' e k v n xs := by
  refine ⟨h.1, ?_⟩
  rcases h.2 with hn | ⟨g, cap, cur, rfl, h1, rest⟩
  · exact .inl hn
  · exact .inr ⟨g, cap, cur, rfl, Nat.le_trans hb h1, rest⟩

theorem Box.four {W : World} {g : Nat} {t : TypeId} {z0 z1 z2 z3 : Value} (h : Box W g t [z0, z1, z2, z3]) (c0 c1 c2 c3 : Value) : Box ((((W.setCell ⟨g, 0, none⟩ c0).setCell ⟨g, 1, none⟩ c1).setCell ⟨g, 2, none⟩ c2).setCell ⟨g, 3, none⟩ c3) g t [c0, c1, c2, c3] :=
  (((h.set 0 c0).set 1 c1).set 2 c2).set 3 c3

theorem four_below {B : Nat} {a W : World} (h : Below B a W) {g : Nat} (c0 c1 c2 c3 : Value) (hg : B ≤ g) : Below B a ((((W.setCell ⟨g, 0, none⟩ c0).setCell ⟨g, 1, none⟩ c1).setCell ⟨g, 2, none⟩ c2).setCell ⟨g, 3, none⟩ c3) :=
  (((h.setCell (p := ⟨g, 0, none⟩) hg c0).setCell (p := ⟨g, 1, none⟩) hg c1).setCell (p := ⟨g, 2, none⟩) hg c2).setCell (p := ⟨g, 3, none⟩) hg c3

theorem own_set {W : World} {B g j : Nat} {e : TypeId} {k n : Nat} {v : Value} {xs : List Value} (h : W.ownsRow B e k v n xs) (hg : g < B) (c : Value) : (W.setCell ⟨g, j, none⟩ c).ownsRow B e k v n xs :=
  own_keep5 h fun b hb => Below.heap_setCell W ⟨g, j, none⟩ c b (by have := (h.lt b hb).1; show b ≠ g; omega)

theorem own_four {W : World} {B g : Nat} {e : TypeId} {k n : Nat} {v : Value} {xs : List Value} (h : W.ownsRow B e k v n xs) (hg : g < B) (c0 c1 c2 c3 : Value) : ((((W.setCell ⟨g, 0, none⟩ c0).setCell ⟨g, 1, none⟩ c1).setCell ⟨g, 2, none⟩ c2).setCell ⟨g, 3, none⟩ c3).ownsRow B e k v n xs :=
  own_set (own_set (own_set (own_set h hg c0) hg c1) hg c2) hg c3

theorem tokPost_mk {P : Tok × List UInt8} {t : Tok} {l : List UInt8} {k : Nat} {va : Value} {w w' : World} {e : Ending} {B : Nat} (hp : P = (t, l.drop k)) (hk : k ≤ l.length) (he : e = .returned (.tuple #[.agg #[.int .i64 t.kind, .string t.name, va, .string t.text], .int .i64 (k : Int)]))
    (ho : w'.ownsRow B 51 2 va t.attrs.length (cellsA t.attrs)) (hB : w.heap.size ≤ B) (hb : Below w.heap.size w w') : TokPost P.1 (l.length - P.2.length) w e w' := by
  subst hp he
  refine ⟨va, ?_, own_le ho hB, hb⟩
  rw [show (l.drop k).length = l.length - k from List.length_drop, show l.length - (l.length - k) = k by omega]

/-- 'append(s, x)' of one element of k cells onto a row that the call owns. -/
theorem wpList_appOne {P : Program} {ops : Array Oper} {rest : List Oper} {o : Oper} {a : Act} {Q : Exit → Act → World → Prop} (w1 : World) (cs : List Value) (hgd : o.guard = none) (s y : Operand) (t e : TypeId)
    (ho : o.op = .call { callee := .builtin .append, args := #[s, y], argTypes := #[t, t] }) (base k : Nat) {z : Value} {bytes : Nat} (ht : P.underlying t = some (.slice e))
    (hinfo : (P.info? e).map (fun i => (i.zero, i.size, i.bytes)) = some (some z, k, bytes)) (hz : z.cells.size = k) (hk : 0 < k)
    (v : Value) (n : Nat) (xs : List Value) (hs : a.eval s = v) (hown : w1.ownsRow base e k v n xs) (H : Nat) (hH : w1.heap.size = H) (hx : a.eval y = .slice (some ⟨H, 0, none⟩) 1 1) (hcs : cs.length = k) (h1 : ∀ u ∈ cs, u.oneCell' = true)
    (h63 : n + 1 ≤ 9223372036854775807) (hbytes : (n + 1) * bytes ≤ 140737488355328) (hbase : base ≤ w1.heap.size)
    (h : ∀ g cap w2, w2.ownsRow base e k (.slice (some ⟨g, 0, none⟩) (n + 1) cap) (n + 1) (xs ++ cs) → w1.grownBy w2 v.ownBlock → (v.ownBlock = some g ∨ w1.heap.size ≤ g) → wpList P ops Q rest (a.put o.dst (.slice (some ⟨g, 0, none⟩) (n + 1) cap)) w2) : wpList P ops Q (o :: rest) a (w1.alloc (.cells cs.toArray e)) := by
  subst hH
  obtain ⟨i, hi, hz0, hz1, hz2⟩ := info_parts hinfo
  refine wpList_append_lies _ hgd s y t ho base e i z k bytes ht hi hz0 hz1 hz2 hz hk v n xs hs (hown.alloc _) ⟨w1.heap.size, 0, none⟩ 1 1 cs hx (by omega) ?_ h1 (by omega) (by unfold maxLen; omega) hbytes (by simp; omega) _ rfl ?_
  · intro j u hj
    rw [add_plain', Nat.zero_add, World.cell?_alloc_at _ _ _ _ rfl]
    simpa using hj
  · intro g cap w2 h2 h3 h4 _
    exact h g cap w2 h2 (grownBy_of_alloc h3) (by
      rcases h4 with h4 | h4
      · exact .inl h4
      · right; rw [h4]; simp)

end Go.Proofs.Ytbnfaijkmbgpmaa

/- Reference 5: a tag. -/
namespace Go.Proofs.Ytbnfaijkmbgpmaa
open Go.RowKit

theorem two_signs {s : ByteArray} (h : M5.startsB s.data.toList = true) : ∃ h2 : 1 < s.size, s.data.toList = s[0] :: s[1] :: s.data.toList.drop 2 := by
  have h2 : 1 < s.size := by
    rcases Nat.lt_or_ge 1 s.size with h1 | h1
    · exact h1
    · have hl : s.data.toList.length ≤ 1 := h1
      match hs : s.data.toList, hl with
      | [], _ => rw [hs] at h; cases h
      | [c], _ => rw [hs] at h; cases h
  exact ⟨h2, by rw [← drop_cons s 1 h2, ← drop_cons s 0 (by omega)]; rfl⟩

theorem tag_no (l : List UInt8) (h : M5.startsB l = false) : M5.tagR l = (M5.zero, l.drop 0) := by
  unfold M5.tagR
  rw [h]
  rfl

theorem tag_begin (c d : UInt8) (r : List UInt8) (h : M5.startsB (c :: d :: r) = true) (hd : M5.letterB d = true) : M5.tagR (c :: d :: r) = M5.beginR (c :: d :: r) := by
  unfold M5.tagR
  rw [if_pos h]
  show (if M5.letterB d then _ else _ : Tok × List UInt8) = _
  rw [if_pos hd]

/-- What a tag is that no letter begins. -/
theorem tag_else (c d : UInt8) (r : List UInt8) (h : M5.startsB (c :: d :: r) = true) (hd : M5.letterB d = false) : M5.tagR (c :: d :: r) =
    if [60, 33, 45, 45].isPrefixOf (c :: d :: r) then (⟨4, ⟨#[]⟩, [], M5.bs (M5.uptoR [45, 45, 62] ((c :: d :: r).drop 4)).1⟩, (M5.uptoR [45, 45, 62] ((c :: d :: r).drop 4)).2)
    else if [60, 47, 62].isPrefixOf (c :: d :: r) then (M5.zero, (c :: d :: r).drop 3)
    else if d = 47 ∧ (r.head?.map M5.letterB) = some true then
      (if M5.findL [62] r < r.length then (⟨2, M5.bs (M1.fold (r.takeWhile M5.nameB)), [], ⟨#[]⟩⟩, r.drop (M5.findL [62] r + 1)) else (M5.zero, []))
    else (⟨4, ⟨#[]⟩, [], M5.bs (M5.uptoR [62] r).1⟩, (M5.uptoR [62] r).2) := by
  unfold M5.tagR
  rw [if_pos h]
  show (if M5.letterB d then _ else _ : Tok × List UInt8) = _
  rw [if_neg (by rw [hd]; exact Bool.false_ne_true)]

theorem cut4 (s : ByteArray) (k : Nat) (wd : ByteArray) (hk : wd.size = k) : ((s.extract 0 k).toList == wd.toList) = wd.data.toList.isPrefixOf s.data.toList := by
  subst hk
  rw [Lib.toList_data, Lib.toList_data, Lib.extract_data, List.drop_zero, Nat.sub_zero]
  show ((s.data.toList.take wd.data.toList.length) == wd.data.toList) = _
  generalize wd.data.toList = a
  generalize s.data.toList = l
  induction a generalizing l with
  | nil => simp
  | cons x a ih =>
    cases l with
    | nil => rfl
    | cons y l =>
      show (y :: l.take a.length == x :: a) = (x == y && a.isPrefixOf l)
      rw [← ih l]
      show (y == x && (l.take a.length == a)) = _
      rw [Bool.beq_comm]

end Go.Proofs.Ytbnfaijkmbgpmaa

/- Layer 4 by plain definitions: nodes' text. No program in it. -/
namespace Go.Proofs.Ytbnfaijkmbgpmaa

namespace M4
def attB (a : Att) : List UInt8 := 32 :: (a.name.data.toList ++ ([61, 34] ++ (M2.escape true a.value.data.toList ++ [34])))
def attsB (l : List Att) : List UInt8 := l.flatMap attB
def headB (n : ByteArray) (l : List Att) : List UInt8 := 60 :: (n.data.toList ++ (attsB l ++ [62]))
def endB (n : ByteArray) : List UInt8 := if M3.voidB n.data.toList then [] else [60, 47] ++ (n.data.toList ++ [62])
def openB (x : Nd) : List UInt8 := if x.kind = 1 then headB x.name x.attrs else []
def closeB (x : Nd) : List UInt8 := if x.kind = 1 then endB x.name else []
def charsB (raw : Bool) (t : ByteArray) : List UInt8 := if raw then t.data.toList else M2.escape false t.data.toList
def commB (t : ByteArray) : List UInt8 := [60, 33, 45, 45] ++ (t.data.toList ++ [45, 45, 62])
def textB : Bool → List Nd → List UInt8
  | _, [] => []
  | raw, .mk k n a t ks :: r =>
    (if k = 1 then headB n a ++ ((if M3.voidB n.data.toList then [] else textB (M3.rawB n.data.toList) ks) ++ endB n)
     else if k = 2 then charsB raw t else if k = 3 then commB t else []) ++ textB raw r
termination_by _ l => SizeOf.sizeOf l
def oneB (raw : Bool) (x : Nd) : List UInt8 :=
  if x.kind = 1 then headB x.name x.attrs ++ ((if M3.voidB x.name.data.toList then [] else textB (M3.rawB x.name.data.toList) x.kids) ++ endB x.name)
  else if x.kind = 2 then charsB raw x.text else if x.kind = 3 then commB x.text else []
def innerB (v raw : Bool) (ks : List Nd) : List UInt8 := if v then [] else textB raw ks
theorem oneB_1 {raw : Bool} {x : Nd} (h : x.kind = 1) : oneB raw x = headB x.name x.attrs ++ (innerB (M3.voidB x.name.data.toList) (M3.rawB x.name.data.toList) x.kids ++ endB x.name) := by unfold oneB innerB; rw [if_pos h]
theorem innerB_no (raw : Bool) (ks : List Nd) : innerB false raw ks = textB raw ks := rfl
theorem innerB_yes (raw : Bool) (ks : List Nd) : innerB true raw ks = [] := rfl
theorem innerB_len (v raw : Bool) (ks : List Nd) : (innerB v raw ks).length ≤ (textB raw ks).length := by cases v <;> simp [innerB]
theorem oneB_2 {raw : Bool} {x : Nd} (h : x.kind = 2) : oneB raw x = charsB raw x.text := by unfold oneB; rw [if_neg (by omega), if_pos h]
theorem oneB_3 {raw : Bool} {x : Nd} (h : x.kind = 3) : oneB raw x = commB x.text := by unfold oneB; rw [if_neg (by omega), if_neg (by omega), if_pos h]
theorem oneB_4 {raw : Bool} {x : Nd} (h1 : x.kind ≠ 1) (h2 : x.kind ≠ 2) (h3 : x.kind ≠ 3) : oneB raw x = [] := by unfold oneB; rw [if_neg h1, if_neg h2, if_neg h3]
theorem textB_nil (raw : Bool) : textB raw [] = [] := by rw [textB]
theorem textB_cons (raw : Bool) (x : Nd) (r : List Nd) : textB raw (x :: r) = oneB raw x ++ textB raw r := by cases x; rw [textB]; rfl
theorem textB_append (raw : Bool) (a b : List Nd) : textB raw (a ++ b) = textB raw a ++ textB raw b := by
  induction a with
  | nil => rw [textB_nil]; rfl
  | cons x r ih => rw [List.cons_append, textB_cons, textB_cons, ih, List.append_assoc]
theorem textB_snoc (raw : Bool) (a : List Nd) (x : Nd) : textB raw (a ++ [x]) = textB raw a ++ oneB raw x := by
  rw [textB_append, textB_cons, textB_nil, List.append_nil]
theorem textB_take (raw : Bool) (l : List Nd) (i : Nat) (h : i < l.length) : textB raw (l.take (i + 1)) = textB raw (l.take i) ++ oneB raw l[i] := by
  rw [List.take_succ_eq_append_getElem h, textB_snoc]
theorem textB_prefix (raw : Bool) (l : List Nd) (i : Nat) : (textB raw (l.take i)).length ≤ (textB raw l).length := by
  have : textB raw l = textB raw (l.take i) ++ textB raw (l.drop i) := by rw [← textB_append, List.take_append_drop]
  rw [this, List.length_append]; omega
def plainT : List Nd → List UInt8
  | [] => []
  | .mk k _ _ t ks :: r => (if k = 2 then t.data.toList else []) ++ (plainT ks ++ plainT r)
termination_by l => SizeOf.sizeOf l
def plain1 (x : Nd) : List UInt8 := (if x.kind = 2 then x.text.data.toList else []) ++ plainT x.kids
theorem plainT_nil : plainT [] = [] := by rw [plainT]
theorem plainT_cons (x : Nd) (r : List Nd) : plainT (x :: r) = plain1 x ++ plainT r := by cases x; rw [plainT, ← List.append_assoc]; rfl
theorem plainT_append (a b : List Nd) : plainT (a ++ b) = plainT a ++ plainT b := by
  induction a with
  | nil => rw [plainT_nil]; rfl
  | cons x r ih => rw [List.cons_append, plainT_cons, plainT_cons, ih, List.append_assoc]
theorem plainT_take (l : List Nd) (i : Nat) (h : i < l.length) : plainT (l.take (i + 1)) = plainT (l.take i) ++ plain1 l[i] := by
  rw [List.take_succ_eq_append_getElem h, plainT_append, plainT_cons, plainT_nil, List.append_nil]
theorem plainT_prefix (l : List Nd) (i : Nat) : (plainT (l.take i)).length ≤ (plainT l).length := by
  have : plainT l = plainT (l.take i) ++ plainT (l.drop i) := by rw [← plainT_append, List.take_append_drop]
  rw [this, List.length_append]; omega
theorem attsB_take (l : List Att) (i : Nat) (h : i < l.length) : attsB (l.take (i + 1)) = attsB (l.take i) ++ attB l[i] := by
  unfold attsB
  rw [List.take_succ_eq_append_getElem h, List.flatMap_append, List.flatMap_cons, List.flatMap_nil, List.append_nil]
theorem attsB_prefix (l : List Att) (i : Nat) : (attsB (l.take i)).length ≤ (attsB l).length := by
  have : attsB l = attsB (l.take i) ++ attsB (l.drop i) := by rw [attsB, attsB, attsB, ← List.flatMap_append, List.take_append_drop]
  rw [this, List.length_append]; omega

/-! ### How long -/
theorem attsB_len (l : List Att) (h : ∀ a ∈ l, a.name.size ≤ 268435456 ∧ a.value.size ≤ 268435456) : (attsB l).length ≤ l.length * 4294967296 := by
  induction l with
  | nil => simp [attsB]
  | cons a r ih =>
    have h1 := ih (fun b hb => h b (by simp [hb]))
    obtain ⟨h2, h3⟩ := h a (by simp)
    have h4 := M2.escape_len true a.value.data.toList
    have e : (attsB (a :: r)).length = (attB a).length + (attsB r).length := by simp [attsB]
    have e2 : (attB a).length = a.name.size + (M2.escape true a.value.data.toList).length + 4 := by
      simp only [attB, List.length_cons, List.length_append, List.length_nil]
      show a.name.size + _ + 1 = _
      omega
    have h5 : a.value.data.toList.length = a.value.size := rfl
    rw [e, List.length_cons]
    omega
theorem headB_len (n : ByteArray) (l : List Att) : (headB n l).length = n.size + (attsB l).length + 2 := by
  simp only [headB, List.length_cons, List.length_append, List.length_nil]
  show n.size + _ + 1 = _
  omega
theorem endB_len (n : ByteArray) : (endB n).length ≤ n.size + 3 := by
  unfold endB
  split
  · simp
  · simp only [List.length_cons, List.length_append, List.length_nil]; show _ + (n.size + _) ≤ _; omega
theorem charsB_len (raw : Bool) (t : ByteArray) : t.size ≤ (charsB raw t).length ∧ (charsB raw t).length ≤ 6 * t.size := by
  have h := M2.escape_len false t.data.toList
  have h5 : t.data.toList.length = t.size := rfl
  unfold charsB
  split
  · omega
  · refine ⟨?_, by omega⟩
    rw [← h5]
    generalize t.data.toList = l
    induction l with
    | nil => simp
    | cons c r ih =>
      rw [M2.escape_cons, List.length_append, List.length_cons]
      have : 1 ≤ (M2.esc false c).length := by unfold M2.esc; (repeat' split) <;> simp
      omega
theorem commB_len (t : ByteArray) : (commB t).length = t.size + 7 := by
  simp only [commB, List.length_cons, List.length_append, List.length_nil]; show _ + (t.size + _) = _; omega
end M4
end Go.Proofs.Ytbnfaijkmbgpmaa

/- Package write: what is handed to a function that puts: what stands ahead of an element's kids, behind them, a text. -/
namespace Go.Proofs.Ytbnfaijkmbgpmaa
open Go.RowKit

/-- Nothing below B has changed, and of what there was no node, attribute or list. -/
structure Kw (B : Nat) (w w' : World) : Prop where
  low : Below B w w'
  kept : ∀ (k : Nat) (c : Array Value) (t : TypeId) (fr : Nat × Nat), w.heap[k]? = some (.cells c t fr) → t = 32 ∨ t = 51 ∨ t = 27 → w'.heap[k]? = some (.cells c t fr)
theorem Kw.refl (B : Nat) (w : World) : Kw B w w := ⟨Below.refl _ _, fun _ _ _ _ h _ => h⟩
theorem Kw.trans {B : Nat} {a b c : World} (h : Kw B a b) (k : Kw B b c) : Kw B a c := ⟨h.low.trans k.low, fun i cs t fr h1 h2 => k.kept i cs t fr (h.kept i cs t fr h1 h2) h2⟩
theorem Kw.of_below {B : Nat} {a b : World} (h : Below a.heap.size a b) (hB : B ≤ a.heap.size) : Kw B a b :=
  ⟨h.mono hB, fun i _ _ _ h1 _ => (h.block i (Array.getElem?_eq_some_iff.1 h1).1).trans h1⟩
theorem Kw.box {B : Nat} {a b : World} (h : Kw B a b) {g : Nat} {t : TypeId} {cs : List Value} (hb : Box a g t cs) (ht : t = 32 ∨ t = 51 ∨ t = 27) : Box b g t cs := h.kept _ _ _ _ hb ht
theorem Kw.size {B : Nat} {a b : World} (h : Kw B a b) : a.heap.size ≤ b.heap.size := h.low.size

def PutPost (B : Nat) (P : List UInt8 → World → Prop) (acc : List UInt8) (w : World) (e : Ending) (w' : World) : Prop := e = .returned (.tuple #[]) ∧ P acc w' ∧ Kw B w w'
/-- The function F, with the variable g that it captured, puts a text behind what P says. -/
structure Puts (B F g : Nat) (P : List UInt8 → World → Prop) : Prop where
  enter : ∀ (args : Array Value) (w : World), (callFunc F args).run Try.prog w = .ok (.enter F args) w
  base : ∀ acc w, P acc w → B ≤ w.heap.size
  stab : ∀ acc w w', P acc w → Below w.heap.size w w' → P acc w'
  call : ∀ acc (s : ByteArray) w, P acc w → acc.length + s.size ≤ 70368744177664 → Calls Try.prog F #[.string s, .pointer (some ⟨g, 0, none⟩)] w (PutPost B P (acc ++ s.data.toList) w)

theorem textB_len (l : List Nd) : FitN l → ∀ raw, (M4.textB raw l).length ≤ M3.weight l * 4294967296 := by
  induction l using Nd.ind with
  | h0 => intro _ raw; rw [M4.textB_nil]; simp
  | h1 k n ats t ks r ih1 ih2 =>
    intro hf raw
    obtain ⟨f1, f2, f3⟩ := fitN_cons.1 hf
    rw [M4.textB_cons, M3.weight_cons, List.length_append]
    have h2 := ih2 f3 raw
    have h1 := ih1 f2 (M3.rawB n.data.toList)
    have h3 := M4.attsB_len ats f1.2.2.1
    have h4 := M4.headB_len n ats
    have h5 := M4.endB_len n
    have h6 := M4.charsB_len raw t
    have h7 := M4.commB_len t
    have h8 : n.size ≤ 268435456 := f1.1
    have h9 : t.size ≤ 268435456 := f1.2.1
    have h10 : (M4.oneB raw (.mk k n ats t ks)).length ≤ (1 + ats.length + M3.weight ks) * 4294967296 := by
      generalize hx : Nd.mk k n ats t ks = x at *
      have e1 : x.kind = k := by rw [← hx]; rfl
      have e2 : x.name = n := by rw [← hx]; rfl
      have e3 : x.attrs = ats := by rw [← hx]; rfl
      have e4 : x.text = t := by rw [← hx]; rfl
      have e5 : x.kids = ks := by rw [← hx]; rfl
      clear hx
      subst e1 e2 e3 e4 e5
      by_cases k1 : x.kind = 1
      · rw [M4.oneB_1 k1, List.length_append, List.length_append]
        have := M4.innerB_len (M3.voidB x.name.data.toList) (M3.rawB x.name.data.toList) x.kids
        omega
      by_cases k2 : x.kind = 2
      · rw [M4.oneB_2 k2]; omega
      by_cases k3 : x.kind = 3
      · rw [M4.oneB_3 k3]; omega
      rw [M4.oneB_4 k1 k2 k3]; simp
    simp only [Nd.attrs, Nd.kids] at *
    omega


end Go.Proofs.Ytbnfaijkmbgpmaa

/- Package token: what closures ask of runes; a text's part that they take. -/
namespace Go.Proofs.Ytbnfaijkmbgpmaa
open Go.RowKit

/-! ### Runes and their bytes -/

/-- A question of bytes, asked of a rune: all beyond ASCII alike. -/
def askR (q : UInt8 → Bool) (r : Nat) : Bool := q (if r < 128 then r.toUInt8 else 128)

/-- A question that all bytes beyond ASCII answer alike. -/
def Flat (q : UInt8 → Bool) : Prop := ∀ c : UInt8, 128 ≤ c.toNat → q c = q 128

theorem flat_of {q : UInt8 → Bool} (h : ∀ n : Fin 256, 128 ≤ n.1 → q n.1.toUInt8 = q 128) : Flat q := by
  intro c hc
  have := h ⟨c.toNat, c.toNat_lt⟩ hc
  rwa [show c.toNat.toUInt8 = c by simp] at this

theorem dec_low (l : List UInt8) (c : UInt8) (r : List UInt8) (hl : l = c :: r) (h : c.toNat < 128) : M1.dec l = (c.toNat, 1) := by
  subst hl
  unfold M1.dec
  rw [if_pos (by simpa using h)]
  rfl

theorem cont_high (l : List UInt8) (k : Nat) (h : M1.cont l k = true) : ∃ h' : k < l.length, 128 ≤ l[k].toNat := by
  unfold M1.cont at h
  rw [Bool.and_eq_true, decide_eq_true_iff] at h
  obtain ⟨h1, h2⟩ := h
  refine ⟨h1, ?_⟩
  rw [List.getD_eq_getElem?_getD, List.getElem?_eq_getElem h1, Option.getD_some] at h2
  have := beq_iff_eq.1 h2
  omega

theorem dec_high (l : List UInt8) (c : UInt8) (r : List UInt8) (hl : l = c :: r) (h : 128 ≤ c.toNat) :
    128 ≤ (M1.dec l).1 ∧ ∀ k, k < (M1.dec l).2 → ∀ hk : k < l.length, 128 ≤ l[k].toNat := by
  have h0 : ∀ hk : 0 < l.length, 128 ≤ l[0].toNat := by subst hl; intro _; exact h
  have one : ∀ k, k < 1 → ∀ hk : k < l.length, 128 ≤ l[k].toNat := by
    intro k hk hl'
    obtain rfl : k = 0 := by omega
    exact h0 hl'
  unfold M1.dec
  rw [if_neg (by subst hl; simpa using h)]
  split
  · rename_i h1
    rw [Bool.and_eq_true] at h1
    split
    · rename_i h2
      refine ⟨h2, ?_⟩
      intro k hk hl'
      match k, hk with
      | 0, _ => exact h0 hl'
      | 1, _ => exact (cont_high l 1 h1.2).2
    · exact ⟨by decide, one⟩
  · split
    · rename_i h1
      rw [Bool.and_eq_true, Bool.and_eq_true] at h1
      split
      · rename_i h2
        rw [Bool.and_eq_true] at h2
        refine ⟨by have := of_decide_eq_true h2.1; show 128 ≤ _; omega, ?_⟩
        intro k hk hl'
        match k, hk with
        | 0, _ => exact h0 hl'
        | 1, _ => exact (cont_high l 1 h1.1.2).2
        | 2, _ => exact (cont_high l 2 h1.2).2
      · exact ⟨by decide, one⟩
    · split
      · rename_i h1
        rw [Bool.and_eq_true, Bool.and_eq_true, Bool.and_eq_true] at h1
        split
        · rename_i h2
          rw [Bool.and_eq_true] at h2
          refine ⟨by have := of_decide_eq_true h2.1; show 128 ≤ _; omega, ?_⟩
          intro k hk hl'
          match k, hk with
          | 0, _ => exact h0 hl'
          | 1, _ => exact (cont_high l 1 h1.1.1.2).2
          | 2, _ => exact (cont_high l 2 h1.1.2).2
          | 3, _ => exact (cont_high l 3 h1.2).2
        · exact ⟨by decide, one⟩
      · exact ⟨by decide, one⟩

theorem ask_low (q : UInt8 → Bool) (c : UInt8) (h : c.toNat < 128) : askR q c.toNat = q c := by
  unfold askR
  rw [if_pos h]
  congr 1
  simp

theorem spanN_all (q : UInt8 → Bool) (n : Nat) : ∀ (l : List UInt8), n ≤ l.length → (∀ k, k < n → ∀ hk : k < l.length, q l[k] = true) → M5.spanN q l = n + M5.spanN q (l.drop n) := by
  induction n with
  | zero => intro l _ _; simp
  | succ n ih =>
    intro l h1 h2
    cases l with
    | nil => simp at h1
    | cons c r =>
      have h0 := h2 0 (by omega) (by simp)
      have e : M5.spanN q (c :: r) = M5.spanN q r + 1 := by
        unfold M5.spanN
        rw [List.takeWhile_cons, if_pos (by simpa using h0)]
        rfl
      rw [e, List.drop_succ_cons, ih r (by simpa using h1) (fun k hk hl => by
        have := h2 (k + 1) (by omega) (by simpa using hl)
        simpa using this)]
      omega

theorem spanN_no (q : UInt8 → Bool) (c : UInt8) (r : List UInt8) (h : q c = false) : M5.spanN q (c :: r) = 0 := by
  unfold M5.spanN
  rw [List.takeWhile_cons, h]
  rfl

/-- What a rune's round tells of the bytes: all of them pass, or the first one does not. -/
theorem rune_step {q : UInt8 → Bool} (hq : Flat q) (l : List UInt8) (hl : l ≠ []) :
    (askR q (M1.dec l).1 = true → M5.spanN q l = (M1.dec l).2 + M5.spanN q (l.drop (M1.dec l).2)) ∧ (askR q (M1.dec l).1 = false → M5.spanN q l = 0) := by
  obtain ⟨c, r, rfl⟩ := List.exists_cons_of_ne_nil hl
  have hle := M1.dec_le (c :: r) hl
  by_cases h : c.toNat < 128
  · have e := dec_low _ c r rfl h
    rw [e]
    rw [ask_low q c h]
    constructor
    · intro hc
      rw [spanN_all q 1 (c :: r) (by simp) (fun k hk _ => by obtain rfl : k = 0 := by omega
                                                             exact hc)]
    · intro hc
      exact spanN_no q c r hc
  · obtain ⟨h1, h2⟩ := dec_high (c :: r) c r rfl (by omega)
    have ha : askR q (M1.dec (c :: r)).1 = q 128 := by
      unfold askR
      rw [if_neg (by omega)]
    rw [ha]
    constructor
    · intro hc
      exact spanN_all q _ _ hle (fun k hk hl' => by rw [hq _ (h2 k hk hl')]; exact hc)
    · intro hc
      exact spanN_no q c r (by rw [hq c (by omega)]; exact hc)

/-! ### What is asked of a rune -/

theorem u8_low (r : Nat) (h : r < 128) : r.toUInt8.toNat = r := by
  rw [M1.toNat_u8 r (by omega)]

/-- A rune against a byte. -/
theorem askR_eq (d : UInt8) (hd : d.toNat < 128) (r : Nat) : askR (· == d) r = ((r : Int) == (d.toNat : Int)) := by
  unfold askR
  by_cases h : r < 128
  · rw [if_pos h]
    show (r.toUInt8 == d) = _
    rw [eqI, u8_low r h]
  · rw [if_neg h]
    have e1 : ((128 : UInt8) == d) = false := by
      rw [eqI]
      have : (128 : UInt8).toNat = 128 := rfl
      rw [this, beq_eq_false_iff_ne]
      omega
    show ((128 : UInt8) == d) = _
    rw [e1]
    symm
    rw [beq_eq_false_iff_ne]
    omega

theorem askR_letter (r : Nat) : askR M5.letterB r = (decide (65 ≤ r ∧ r ≤ 90) || decide (97 ≤ r ∧ r ≤ 122)) := by
  unfold askR
  by_cases h : r < 128
  · rw [if_pos h]
    unfold M5.letterB
    rw [u8_low r h]
  · rw [if_neg h]
    have : M5.letterB 128 = false := by decide
    rw [this]
    symm
    simp
    omega

theorem askR_blank (r : Nat) : askR M5.blankB r = (((r : Int) == 9) || ((r : Int) == 10) || ((r : Int) == 12) || ((r : Int) == 32)) := by
  have h9 := askR_eq 9 (by decide) r
  have h10 := askR_eq 10 (by decide) r
  have h12 := askR_eq 12 (by decide) r
  have h32 := askR_eq 32 (by decide) r
  show (((askR (· == 9) r || askR (· == 10) r) || askR (· == 12) r) || askR (· == 32) r : Bool) = _
  rw [h9, h10, h12, h32]
  rfl

set_option maxHeartbeats 1000000 in
theorem tokBlank (r : Nat) (w : World) : Calls Try.prog 98 #[.int .i32 (r : Int)] w (BoolPost (askR M5.blankB r) w) := by
  rw [askR_blank]
  generalize (r : Int) = n at *
  cases h9 : (n == 9)
  · cases h10 : (n == 10)
    · cases h12 : (n == 12)
      · go_enter Try.func98, Try.ntmps98
        go_wp2
        go_ret
        exact ⟨rfl, rfl⟩
      · go_enter Try.func98, Try.ntmps98
        go_wp2
        go_ret
        exact ⟨rfl, rfl⟩
    · go_enter Try.func98, Try.ntmps98
      go_wp2
      go_ret
      exact ⟨rfl, rfl⟩
  · go_enter Try.func98, Try.ntmps98
    go_wp2
    go_ret
    exact ⟨rfl, rfl⟩

/-- What is passed over between attributes. -/
def betwB (c : UInt8) : Bool := M5.blankB c || c == 47 || c == 61

set_option maxHeartbeats 1000000 in
theorem tokLeaves (r : Nat) (w : World) : Calls Try.prog 70 #[.int .i32 (r : Int)] w (BoolPost (askR edgeB r) w) := by
  have hB := Lib.hid (fun w => tokBlank r w)
  have e : askR edgeB r = (askR M5.blankB r || ((r : Int) == 47) || ((r : Int) == 62)) := by
    show ((askR M5.blankB r || askR (· == 47) r) || askR (· == 62) r : Bool) = _
    rw [askR_eq 47 (by decide) r, askR_eq 62 (by decide) r]
    rfl
  rw [e]
  clear e
  generalize askR M5.blankB r = b at *
  generalize (r : Int) = n at *
  cases b
  · cases h1 : (n == 47)
    · go_enter Try.func70, Try.ntmps70
      go_wp2_with (go_at_call 98; refine (hB.out _).mono ?_; rintro e1 w1 ⟨rfl, rfl⟩)
      go_ret
      exact ⟨rfl, rfl⟩
    · go_enter Try.func70, Try.ntmps70
      go_wp2_with (go_at_call 98; refine (hB.out _).mono ?_; rintro e1 w1 ⟨rfl, rfl⟩)
      go_ret
      exact ⟨rfl, rfl⟩
  · go_enter Try.func70, Try.ntmps70
    go_wp2_with (go_at_call 98; refine (hB.out _).mono ?_; rintro e1 w1 ⟨rfl, rfl⟩)
    go_ret
    exact ⟨rfl, rfl⟩

end Go.Proofs.Ytbnfaijkmbgpmaa

/- Package token: closures, what they take of a text. -/
namespace Go.Proofs.Ytbnfaijkmbgpmaa
open Go.RowKit

/-- The function F, with what it captured, answers a rune by q, in any world that grew out of w0. -/
structure Asks (F : Nat) (caps : Array Value) (q : UInt8 → Bool) (w0 : World) : Prop where
  enter : ∀ (args : Array Value) (w : World), (callFunc F args).run Try.prog w = .ok (.enter F args) w
  flat : Flat q
  call : ∀ (r : Nat) (w : World), r < 1114112 → Below w0.heap.size w0 w → Calls Try.prog F (#[.int .i32 (r : Int)] ++ caps) w (BoolPost (askR q r) w)

def TakePost (q : UInt8 → Bool) (l : List UInt8) (w : World) (e : Ending) (w' : World) : Prop :=
  e = .returned (.tuple #[.string (M5.bs (l.takeWhile q)), .string (M5.bs (l.dropWhile q))]) ∧ Below w.heap.size w w'

theorem take_part (s : ByteArray) (q : UInt8 → Bool) (k : Nat) (h : k = M5.spanN q s.data.toList) : s.extract 0 k = M5.bs (s.data.toList.takeWhile q) := by
  rw [bs_cut, List.drop_zero, Nat.sub_zero, h, M5.span_take]

theorem drop_part (s : ByteArray) (q : UInt8 → Bool) (k : Nat) (h : k = M5.spanN q s.data.toList) : s.extract k s.size = M5.bs (s.data.toList.dropWhile q) := by
  rw [bs_cut, List.take_of_length_le (by rw [List.length_drop]; exact Nat.le_refl _), h, M5.span_drop]

end Go.Proofs.Ytbnfaijkmbgpmaa

/- Package token: the questions of its closures, a name, a value, an attribute. -/
namespace Go.Proofs.Ytbnfaijkmbgpmaa
open Go.RowKit

theorem bp_true {b : Bool} {w : World} (h : b = true) : BoolPost b w (.returned (.bool true)) w := by rw [h]; exact ⟨rfl, rfl⟩

theorem bp_of {b c : Bool} {w : World} (h : b = c) : BoolPost b w (.returned (.bool c)) w := by rw [h]; exact ⟨rfl, rfl⟩

theorem askR_name (r : Nat) : askR M5.nameB r = (askR M5.letterB r || decide (48 ≤ r ∧ r ≤ 57) || ((r : Int) == 45)) := by
  have e : ((askR M5.letterB r || askR (fun c => decide (48 ≤ c.toNat ∧ c.toNat ≤ 57)) r) || askR (· == 45) r : Bool) = askR M5.nameB r := rfl
  rw [← e, askR_eq 45 (by decide) r]
  have e2 : askR (fun c => decide (48 ≤ c.toNat ∧ c.toNat ≤ 57)) r = decide (48 ≤ r ∧ r ≤ 57) := by
    unfold askR
    by_cases h : r < 128
    · rw [if_pos h]
      show decide (48 ≤ r.toUInt8.toNat ∧ r.toUInt8.toNat ≤ 57) = _
      rw [u8_low r h]
    · rw [if_neg h]
      rw [decide_eq_decide]
      constructor
      · intro h'; exact absurd h'.2 (by decide)
      · intro h'; omega
  rw [e2]
  rfl

theorem key_eq (c : UInt8) : M5.keyB c = (!betwB c && !(c == 62)) := by
  unfold M5.keyB M5.stopB betwB
  cases M5.blankB c <;> cases (c == 47) <;> cases (c == 62) <;> cases (c == 61) <;> rfl

theorem askR_key (r : Nat) : askR M5.keyB r = (!askR betwB r && !((r : Int) == 62)) := by
  have h := askR_eq 62 (by decide) r
  unfold askR at *
  rw [key_eq]
  rw [show ((if r < 128 then r.toUInt8 else 128) == (62 : UInt8)) = ((r : Int) == 62) from h]

theorem askR_bare (r : Nat) : askR M5.bareB r = (!askR M5.blankB r && !((r : Int) == 62)) := by
  have h := askR_eq 62 (by decide) r
  unfold askR at *
  show (!M5.blankB _ && !(_ == _)) = _
  rw [show ((if r < 128 then r.toUInt8 else 128) == (62 : UInt8)) = ((r : Int) == 62) from h]

theorem askR_not (d : UInt8) (hd : d.toNat < 128) (r : Nat) : askR (· != d) r = !((r : Int) == (d.toNat : Int)) := by
  rw [← askR_eq d hd r]
  rfl

/-! ### As what is handed in -/

theorem flat_blank : Flat M5.blankB := flat_of (by decide +kernel)

theorem flat_betw : Flat betwB := flat_of (by decide +kernel)

theorem flat_name : Flat M5.nameB := flat_of (by decide +kernel)

theorem flat_key : Flat M5.keyB := flat_of (by decide +kernel)

theorem flat_bare : Flat M5.bareB := flat_of (by decide +kernel)

theorem flat_ne (d : UInt8) (hd : d.toNat < 128) : Flat (· != d) := by
  intro c hc
  have h1 : c ≠ d := fun e => by subst e; omega
  have h2 : (128 : UInt8) ≠ d := fun e => by subst e; exact absurd hd (by decide)
  show (c != d) = ((128 : UInt8) != d)
  rw [bne_iff_ne.2 h1, bne_iff_ne.2 h2]

theorem asksBlank (w : World) : Asks 98 #[] M5.blankB w := ⟨enters_of Try.func98 (by kernel_rfl) rfl, flat_blank, fun r w _ _ => tokBlank r w⟩

end Go.Proofs.Ytbnfaijkmbgpmaa

/- Package token: whether a tag begins, a name, a value, an attribute. -/
namespace Go.Proofs.Ytbnfaijkmbgpmaa
open Go.RowKit

theorem idx_three (c : UInt8) : decide (0 ≤ Lib.indexByte [33, 63, 47] c) = ((c == 33) || (c == 63) || (c == 47)) := by
  unfold Lib.indexByte
  unfold Lib.indexByte
  unfold Lib.indexByte
  unfold Lib.indexByte
  rw [Bool.beq_comm (a := (33 : UInt8)), Bool.beq_comm (a := (63 : UInt8)), Bool.beq_comm (a := (47 : UInt8))]
  cases (c == 33) <;> cases (c == 63) <;> cases (c == 47) <;> decide

theorem wrap32_byte (c : UInt8) : wrap32 (c.toNat : Int) = (c.toNat : Int) := by
  have := c.toNat_lt
  unfold wrap32
  omega

def NamedPost (l : List UInt8) (w : World) (e : Ending) (w' : World) : Prop :=
  e = .returned (.tuple #[.string (M5.bs (M1.fold (l.takeWhile M5.nameB))), .string (M5.bs (l.dropWhile M5.nameB))]) ∧ Below w.heap.size w w'

theorem bs_size (l : List UInt8) : (M5.bs l).size = l.length := by
  show (M5.bs l).data.size = _
  rw [← Array.length_toList, M5.bs_data]

theorem tw_le (q : UInt8 → Bool) (s : ByteArray) : (M5.bs (s.data.toList.takeWhile q)).size ≤ s.size := by
  rw [bs_size]
  exact (List.takeWhile_prefix q).length_le

theorem dw_le (q : UInt8 → Bool) (s : ByteArray) : (M5.bs (s.data.toList.dropWhile q)).size ≤ s.size := by
  rw [bs_size]
  exact (List.dropWhile_suffix q).length_le

def PairPost (p : List UInt8 × List UInt8) (w : World) (e : Ending) (w' : World) : Prop :=
  e = .returned (.tuple #[.string (M5.bs p.1), .string (M5.bs p.2)]) ∧ Below w.heap.size w w'

theorem hasP1 (s : ByteArray) (c : UInt8) : Lib.hasPrefix s.data.toList [c] = (s.data.toList.head? == some c) := by
  show [c].isPrefixOf s.data.toList = _
  cases s.data.toList with
  | nil => rfl
  | cons d r =>
    show (c == d && true) = (some d == some c)
    rw [Bool.and_true, Bool.beq_comm]
    rfl

theorem drop1_bs (s : ByteArray) : s.extract 1 s.size = M5.bs (s.data.toList.drop 1) := by
  rw [bs_cut, List.take_of_length_le (by rw [List.length_drop]; exact Nat.le_refl _)]

theorem bs_drop (l : List UInt8) (k : Nat) : (M5.bs l).extract k l.length = M5.bs (l.drop k) := by
  rw [bs_cut, M5.bs_data, List.take_of_length_le (by rw [List.length_drop]; exact Nat.le_refl _)]

end Go.Proofs.Ytbnfaijkmbgpmaa

/- Package token: an attribute. -/
namespace Go.Proofs.Ytbnfaijkmbgpmaa
open Go.RowKit

/-- The call tells the two texts, in any world. -/
def Gives2 (F : Nat) (args : Array Value) (a b : ByteArray) : Prop := ∀ w, Calls Try.prog F args w (fun e w' => e = .returned (.tuple #[.string a, .string b]) ∧ Below w.heap.size w w')

def Gives1 (F : Nat) (args : Array Value) (a : ByteArray) : Prop := ∀ w, Calls Try.prog F args w (fun e w' => e = .returned (.string a) ∧ Below w.heap.size w w')

theorem fold1 (s : ByteArray) (hs : s.size ≤ 1073741824) : Gives1 122 #[.string s] (M5.bs (M1.fold s.data.toList)) := fun w => utfFold s w (by omega)

def AttCPost (p : Att × List UInt8) (w : World) (e : Ending) (w' : World) : Prop :=
  e = .returned (.tuple #[.agg #[.string p.1.name, .string p.1.value], .string (M5.bs p.2)]) ∧ Below w.heap.size w w'

end Go.Proofs.Ytbnfaijkmbgpmaa

/- Contracts of the library's shelf, laid in plain words (lay-plain.mjs), this program's numbers by name. -/
namespace Go.Proofs.Ytbnfaijkmbgpmaa
open Go.Shelf
end Go.Proofs.Ytbnfaijkmbgpmaa

/- Package token: an ending tag, a comment. -/
namespace Go.Proofs.Ytbnfaijkmbgpmaa
open Go.RowKit

/-- The library's variable holds a number. -/
def Glo (w : World) : Prop := ∃ m : Int, w.cell? ⟨0, 0, none⟩ = some (.int .i64 m)

theorem Glo.below {B : Nat} {w w' : World} (h : Glo w) (hb : Below B w w') (hB : w.heap.size ≤ B) : Glo w' := by
  obtain ⟨m, hm⟩ := h
  exact ⟨m, by rw [hb.cell (Nat.lt_of_lt_of_le (World.block_lt_of_cell? w _ hm) hB)]; exact hm⟩

theorem dropk_bs (s : ByteArray) (k : Nat) : s.extract k s.size = M5.bs (s.data.toList.drop k) := by
  rw [bs_cut, List.take_of_length_le (by rw [List.length_drop]; exact Nat.le_refl _)]

theorem isEmpty_yes (s : ByteArray) (h : s.size = 0) : s.toList.isEmpty = true := by
  rw [Lib.toList_data, List.isEmpty_iff]
  exact List.eq_nil_of_length_eq_zero h

theorem isEmpty_no (s : ByteArray) (h : 0 < s.size) : s.toList.isEmpty = false := by
  rw [Lib.toList_data, List.isEmpty_eq_false_iff]
  intro e
  have : s.data.toList.length = s.size := rfl
  rw [e] at this
  simp at this
  omega

theorem tokPost_nil {k : Int} {nm tx : ByteArray} {n : Nat} {z : Int} {w w' : World} (hz : z = (n : Int)) (hb : Below w.heap.size w w') :
    TokPost ⟨k, nm, [], tx⟩ n w (.returned (.tuple #[.agg #[.int .i64 k, .string nm, .slice none 0 0, .string tx], .int .i64 z])) w' := by
  subst hz
  exact ⟨.slice none 0 0, rfl, World.ownsRow_nil _ w.heap.size _ _, hb⟩

end Go.Proofs.Ytbnfaijkmbgpmaa

/- Contracts of the library's shelf, laid in plain words (lay-plain.mjs), this program's numbers by name. -/
namespace Go.Proofs.Ytbnfaijkmbgpmaa
open Go.RowKit Go.Shelf

def Try.lays144_ren : Go.Shelf.Ren := ⟨fun | 144 => 76 | 143 => 102 | 219 => 117 | 217 => 125 | 225 => 126 | 224 => 127 | 267 => 128 | 266 => 131 | 314 => 132 | n => n, fun | 9 => 9 | 4 => 4 | 3 => 3 | 5 => 5 | 46 => 69 | 146 => 126 | 51 => 90 | n => n, fun | 1 => 0 | n => n⟩

theorem Try.lays144 : Go.Proofs.Lays.n144 Try.prog Try.lays144_ren := {
  mixed := by kernel_rfl
  f143 := Try.func102.trans (congrArg some (by kernel_rfl))
  f144 := Try.func76.trans (congrArg some (by kernel_rfl))
  f217 := Try.func125.trans (congrArg some (by kernel_rfl))
  f219 := Try.func117.trans (congrArg some (by kernel_rfl))
  f224 := Try.func127.trans (congrArg some (by kernel_rfl))
  f225 := Try.func126.trans (congrArg some (by kernel_rfl))
  f266 := Try.func131.trans (congrArg some (by kernel_rfl))
  f267 := Try.func128.trans (congrArg some (by kernel_rfl))
  f314 := Try.func132.trans (congrArg some (by kernel_rfl))
  t3 := Try.underlying3
  a3 := Try.isAgg3
  z3 := Try.sizeOf3
  v3 := Try.zeroValue3
  t4 := Try.underlying4
  a4 := Try.isAgg4
  z4 := Try.sizeOf4
  v4 := Try.zeroValue4
  t5 := Try.underlying5
  a5 := Try.isAgg5
  z5 := Try.sizeOf5
  v5 := Try.zeroValue5
  t9 := Try.underlying9
  a9 := Try.isAgg9
  z9 := Try.sizeOf9
  v9 := Try.zeroValue9
  t46 := Try.underlying69
  a46 := Try.isAgg69
  z46 := Try.sizeOf69
  v46 := Try.zeroValue69
  t51 := Try.underlying90
  a51 := Try.isAgg90
  z51 := Try.sizeOf90
  v51 := Try.zeroValue90
  t146 := Try.underlying126
  a146 := Try.isAgg126
  z146 := Try.sizeOf126
  v146 := Try.zeroValue126
  g1 := by kernel_rfl }

def Try.laysM144_ren : Go.Shelf.Ren := ⟨fun | 144 => 76 | 143 => 102 | 219 => 117 | 217 => 125 | 225 => 126 | 224 => 127 | 267 => 128 | 266 => 131 | 314 => 132 | n => n, fun | 9 => 9 | 4 => 4 | 3 => 3 | 5 => 5 | 46 => 69 | 146 => 126 | 51 => 90 | n => n, fun | 1 => 0 | n => n⟩

theorem Try.laysM144 : Go.Proofs.LaysM.n144 Try.prog Try.laysM144_ren := {
  mixed := by kernel_rfl
  f143 := Try.func102.trans (congrArg some (by kernel_rfl))
  f144 := Try.func76.trans (congrArg some (by kernel_rfl))
  f217 := Try.func125.trans (congrArg some (by kernel_rfl))
  f219 := Try.func117.trans (congrArg some (by kernel_rfl))
  f224 := Try.func127.trans (congrArg some (by kernel_rfl))
  f225 := Try.func126.trans (congrArg some (by kernel_rfl))
  f266 := Try.func131.trans (congrArg some (by kernel_rfl))
  f267 := Try.func128.trans (congrArg some (by kernel_rfl))
  f314 := Try.func132.trans (congrArg some (by kernel_rfl))
  t3 := Try.underlying3
  a3 := Try.isAgg3
  z3 := Try.sizeOf3
  v3 := Try.zeroValue3
  t4 := Try.underlying4
  a4 := Try.isAgg4
  z4 := Try.sizeOf4
  v4 := Try.zeroValue4
  t5 := Try.underlying5
  a5 := Try.isAgg5
  z5 := Try.sizeOf5
  v5 := Try.zeroValue5
  t9 := Try.underlying9
  a9 := Try.isAgg9
  z9 := Try.sizeOf9
  v9 := Try.zeroValue9
  t46 := Try.underlying69
  a46 := Try.isAgg69
  z46 := Try.sizeOf69
  v46 := Try.zeroValue69
  t51 := Try.underlying90
  a51 := Try.isAgg90
  z51 := Try.sizeOf90
  v51 := Try.zeroValue90
  t146 := Try.underlying126
  a146 := Try.isAgg126
  z146 := Try.sizeOf126
  v146 := Try.zeroValue126
  g1 := by kernel_rfl
  i3 := by kernel_rfl
  i4 := by kernel_rfl
  i5 := by kernel_rfl
  i9 := by kernel_rfl
  i46 := by kernel_rfl
  i51 := by kernel_rfl
  i146 := by kernel_rfl
  m1 := by kernel_rfl
  s1_3 := fun w h => Go.Proofs.cell_of_shapedOpen_int (zero := #[.int .i64 0]) (t := 3) h (of_decide_eq_true (by kernel_rfl)) (by kernel_rfl) rfl (by kernel_rfl) (by kernel_rfl) Try.underlying3 }

theorem glo_of6 {w : World} (h : w.ShapedOpen Try.prog) : Glo w := Try.laysM144.s1_3 w h

theorem contains_rem (s : ByteArray) (w : World) (hg : Glo w) (hs : s.size ≤ 1073741824) : Calls Try.prog 76 #[.string s, .string ⟨#[45, 45, 62]⟩] w fun e w' => e = .returned (.bool (M6.hasB [45, 45, 62] s.data.toList)) ∧ Below w.heap.size w w' := by
  obtain ⟨m, hm⟩ := hg
  refine (Any.strings_Contains Try.lays144 s ⟨#[45, 45, 62]⟩ m w (by omega) hm).mono ?_
  rintro e w' ⟨rfl, rfl⟩
  refine ⟨?_, Below.refl _ _⟩
  have e : Lib.contains s.data.toList [45, 45, 62] = M6.hasB [45, 45, 62] s.data.toList := by
    unfold Lib.contains M6.hasB
    rw [M5.index_find _ _ (by simp)]
    split <;> simp_all
  rw [← e]
end Go.Proofs.Ytbnfaijkmbgpmaa

/- Package token: a beginning tag. -/
namespace Go.Proofs.Ytbnfaijkmbgpmaa
open Go.RowKit Go.Maps

theorem zeroUnit (w : World) : (zeroValue 110).run Try.prog w = .ok (.agg #[]) w := by kernel_rfl

theorem keyS : Keyed Try.prog 9 := string_keyed Try.underlying9

def keyL (a : Att) : Lit := .string a.name.data.toList

def stoodD (acc : List Att) : DataW Unit := setOf (H := Unit) (.agg []) (acc.map keyL)

theorem keyL_isKey (acc : List Att) : ∀ x ∈ acc.map keyL, WideAt.IsKeyLit x := by
  intro x hx
  obtain ⟨a, _, rfl⟩ := List.mem_map.1 hx
  exact trivial

theorem has_stood (acc : List Att) (nm : ByteArray) : Maps.has (stoodD acc) (.string nm.data.toList) = acc.any fun b => M3.eqB b.name nm := by
  unfold stoodD
  rw [has_setOf _ _ _ (keyL_isKey acc), List.any_map]
  congr 1
  funext b
  show (Lit.string b.name.data.toList).sameKey (.string nm.data.toList) = M3.eqB b.name nm
  unfold M3.eqB
  rw [Lib.toList_data, Lib.toList_data]
  rfl

theorem stood_snoc (acc : List Att) (a : Att) : stoodD (acc ++ [a]) = (stoodD acc).put (.string a.name.data.toList) (.agg []) := by
  unfold stoodD
  rw [List.map_append, List.map_cons, List.map_nil, setOf_snoc]
  rfl

theorem stood_nil : stoodD [] = .map [] := rfl

theorem betw_over : betwB = M5.overB := rfl

theorem own_off {W : World} {B g j : Nat} {e : TypeId} {k n : Nat} {v : Value} {xs : List Value} (h : W.ownsRow B e k v n xs) (hg : ∀ b, v.ownBlock = some b → b ≠ g) (c : Value) : (W.setCell ⟨g, j, none⟩ c).ownsRow B e k v n xs :=
  own_keep5 h fun b hb => Below.heap_setCell W ⟨g, j, none⟩ c b (hg b hb)

def strLen : Value → Nat
  | .string s => s.size
  | _ => 0

theorem tokPost_own {t : Tok} {n : Nat} {z : Int} {va : Value} {B : Nat} {w w' : World} (hz : z = (n : Int)) (ho : w'.ownsRow B 51 2 va t.attrs.length (cellsA t.attrs)) (hB : w.heap.size ≤ B) (hb : Below w.heap.size w w') :
    TokPost t n w (.returned (.tuple #[.agg #[.int .i64 t.kind, .string t.name, va, .string t.text], .int .i64 z])) w' := by
  subst hz
  exact ⟨va, rfl, own_le ho hB, hb⟩

end Go.Proofs.Ytbnfaijkmbgpmaa

/- Package token: a tag. -/
namespace Go.Proofs.Ytbnfaijkmbgpmaa
open Go.RowKit

/-- What a tag is that no letter begins, in the program's order. -/
theorem tag_code (c d : UInt8) (r : List UInt8) (h : M5.startsB (c :: d :: r) = true) (hd : M5.letterB d = false) : M5.tagR (c :: d :: r) =
    if d = 47 ∧ (r.head?.map M5.letterB) = some true then M5.endR r
    else if [60, 47, 62].isPrefixOf (c :: d :: r) then (M5.zero, (c :: d :: r).drop 3)
    else if [60, 33, 45, 45].isPrefixOf (c :: d :: r) then M5.remarkR [45, 45, 62] ((c :: d :: r).drop 4)
    else M5.remarkR [62] r := by
  rw [tag_else c d r h hd]
  by_cases hA : d = 47 ∧ (r.head?.map M5.letterB) = some true
  · have h1 : [60, 33, 45, 45].isPrefixOf (c :: d :: r) = false := by
      rw [hA.1]
      show (60 == c && (33 == (47 : UInt8) && _)) = false
      rw [show ((33 : UInt8) == 47) = false from by decide, Bool.false_and, Bool.and_false]
    have h2 : [60, 47, 62].isPrefixOf (c :: d :: r) = false := by
      cases r with
      | nil => simp at hA
      | cons e t =>
        have he : M5.letterB e = true := by simpa using hA.2
        have h62 : ((62 : UInt8) == e) = false := by
          rw [beq_eq_false_iff_ne]
          intro x
          subst x
          exact absurd he (by decide)
        show (60 == c && (47 == d && (62 == e && _))) = false
        rw [h62, Bool.false_and, Bool.and_false, Bool.and_false]
    rw [h1, h2, if_neg Bool.false_ne_true, if_neg Bool.false_ne_true, if_pos hA, if_pos hA]
    rfl
  · rw [if_neg hA, if_neg hA]
    by_cases h4 : [60, 33, 45, 45].isPrefixOf (c :: d :: r) = true
    · have h3 : [60, 47, 62].isPrefixOf (c :: d :: r) = false := by
        have : d = 33 := by
          have h4' : (60 == c && (33 == d && [45, 45].isPrefixOf r)) = true := h4
          simp only [Bool.and_eq_true, beq_iff_eq] at h4'
          exact h4'.2.1.symm
        subst this
        show (60 == c && (47 == (33 : UInt8) && _)) = false
        rw [show ((47 : UInt8) == 33) = false from by decide, Bool.false_and, Bool.and_false]
      rw [if_pos h4, h3, if_neg Bool.false_ne_true, if_pos h4]
      rfl
    · rw [if_neg h4, if_neg h4]
      rfl

theorem letter_ask (c : UInt8) : M5.letterB c = askR M5.letterB c.toNat := by
  by_cases hc : c.toNat < 128
  · rw [ask_low _ _ hc]
  · unfold askR
    rw [if_neg hc]
    unfold M5.letterB
    rw [Bool.eq_iff_iff]
    simp
    omega

end Go.Proofs.Ytbnfaijkmbgpmaa

/- Package token: characters up to the next tag. -/
namespace Go.Proofs.Ytbnfaijkmbgpmaa
open Go.RowKit

/-- A rune's bytes begin no tag but at the first one, and that only at '<'. -/
theorem rune_plain (l : List UInt8) (hl : l ≠ []) :
    ((M1.dec l).1 ≠ 60 → M5.plainN l = (M1.dec l).2 + M5.plainN (l.drop (M1.dec l).2)) ∧ ((M1.dec l).1 = 60 → (M1.dec l).2 = 1) := by
  obtain ⟨c, r, rfl⟩ := List.exists_cons_of_ne_nil hl
  have hle := M1.dec_le (c :: r) hl
  by_cases h : c.toNat < 128
  · have e := dec_low _ c r rfl h
    rw [e]
    refine ⟨fun hc => ?_, fun _ => rfl⟩
    refine M5.plainN_skip 1 _ (by simp) (fun k hk => ?_)
    obtain rfl : k = 0 := by omega
    rw [List.drop_zero]
    cases hs : M5.startsB (c :: r)
    · rfl
    · obtain ⟨t, ht⟩ := M5.starts_head _ hs
      have : c = 60 := (List.cons.inj ht).1
      subst this
      exact absurd rfl hc
  · obtain ⟨h1, h2⟩ := dec_high (c :: r) c r rfl (by omega)
    refine ⟨fun _ => ?_, fun hc => by omega⟩
    refine M5.plainN_skip _ _ hle (fun k hk => ?_)
    cases hs : M5.startsB ((c :: r).drop k)
    · rfl
    · obtain ⟨t, ht⟩ := M5.starts_head _ hs
      have hk2 : k < (c :: r).length := by omega
      rw [List.drop_eq_getElem_cons hk2] at ht
      have h3 := h2 k hk hk2
      rw [(List.cons.inj ht).1] at h3
      exact absurd h3 (by decide)

end Go.Proofs.Ytbnfaijkmbgpmaa

/- Package token: how much of a word stands right ahead: a step of the closure that follow makes. -/
namespace Go.Proofs.Ytbnfaijkmbgpmaa
open Go.RowKit Kmp

def rowI (wd : List UInt8) (bk : Nat → Nat) : List Value := (List.range (wd.length + 1)).map fun j => Value.int .i64 (bk j : Int)

theorem rowI_len (wd : List UInt8) (bk : Nat → Nat) : (rowI wd bk).length = wd.length + 1 := by simp [rowI]

theorem rowI_get (wd : List UInt8) (bk : Nat → Nat) (j : Nat) (h : j ≤ wd.length) : (rowI wd bk)[j]? = some (.int .i64 (bk j : Int)) := by
  unfold rowI
  rw [List.getElem?_map, List.getElem?_range (by omega)]
  rfl

/-- The word and its table, where the closure has them. -/
structure FMem (wd : List UInt8) (bk : Nat → Nat) (g1 g2 ga : Nat) (w : World) : Prop where
  word : Box w g1 9 [.string (M5.bs wd)]
  slice : Box w g2 96 [.slice (some ⟨ga, 0, none⟩) (wd.length + 1) (wd.length + 1)]
  row : MutRow w ga (rowI wd bk)

theorem mutRow_lt {w : World} {g : Nat} {xs : List Value} (h : MutRow w g xs) (hx : 0 < xs.length) : g < w.heap.size := World.block_lt_of_cell? w ⟨g, 0, none⟩ (h 0 hx).1

theorem mutRow_below {w w' : World} {g B : Nat} {xs : List Value} (h : MutRow w g xs) (hb : Below B w w') (hg : g < B) : MutRow w' g xs := fun j hj => by
  obtain ⟨h1, h2⟩ := h j hj
  exact ⟨by rw [hb.cell (p := ⟨g, j, none⟩) hg]; exact h1, by rw [hb.frozen (p := ⟨g, j, none⟩) hg]; exact h2⟩

theorem FMem.below {wd : List UInt8} {bk : Nat → Nat} {g1 g2 ga : Nat} {w w' : World} (h : FMem wd bk g1 g2 ga w) (hb : Below w.heap.size w w') : FMem wd bk g1 g2 ga w' :=
  ⟨h.word.below hb h.word.lt, h.slice.below hb h.slice.lt, mutRow_below h.row hb (mutRow_lt h.row (by rw [rowI_len]; omega))⟩

theorem pre_one (s : ByteArray) (p : UInt8) (h : 0 < s.size) : M1.prefixB s.data.toList [p] = (M1.small s[0] == p) := by
  have := drop_cons s 0 h
  rw [List.drop_zero] at this
  rw [this]
  show (decide (1 ≤ (s[0] :: s.data.toList.drop 1).length) && ([M1.small s[0]] == [p])) = _
  rw [decide_eq_true (by simp), Bool.true_and]
  show (M1.small s[0] == p && ([] : List UInt8) == []) = _
  simp

theorem one_cut (wd : List UInt8) (h : Nat) (hh : h < wd.length) : ((M5.bs wd).extract h (h + 1)).data.toList = [wd[h]] := by
  rw [Lib.extract_data, M5.bs_data, List.drop_eq_getElem_cons hh, show h + 1 - h = 1 by omega]
  rfl

def StepPost (wd : List UInt8) (h : Nat) (c : UInt8) (w : World) (e : Ending) (w' : World) : Prop := ∃ r : Nat, Strides wd h c r ∧ e = .returned (.int .i64 (r : Int)) ∧ Below w.heap.size w w'

set_option maxHeartbeats 4000000 in
set_option maxRecDepth 100000 in
theorem tokStep (wd : List UInt8) (bk : Nat → Nat) (h M : Nat) (left : ByteArray) (w : World) (g1 g2 ga : Nat) (hm : FMem wd bk g1 g2 ga w) (hw1 : 0 < wd.length) (hw2 : wd.length ≤ 2147483648) (hh : h ≤ wd.length) (hM : h ≤ M) (ht : Tab wd bk M) (hl1 : 0 < left.size) (hl2 : left.size ≤ 1073741826) :
    Calls Try.prog 96 #[.int .i64 (h : Int), .string left, .pointer (some ⟨g1, 0, none⟩), .pointer (some ⟨g2, 0, none⟩)] w (StepPost wd h left[0] w) := by
  obtain ⟨wo, rfl⟩ : ∃ wo : World, wo = w := ⟨_, rfl⟩
  have hP := Lib.hid (fun (k : Nat) (hk : k < wd.length) w => utfPrefix left ((M5.bs wd).extract k (k + 1)) w (by omega) (by rw [ByteArray.size_extract]; omega))
  obtain ⟨c, hc⟩ : ∃ c, Hid (c = M1.small left[0]) := ⟨M1.small left[0], Lib.hid rfl⟩
  have hQ : Hid (∀ (k : Nat) (hk : k < wd.length) w, Calls Try.prog 97 #[.string left, .string ((M5.bs wd).extract k (k + 1))] w (fun e w' => e = .returned (.bool (c == wd[k])) ∧ Below w.heap.size w w')) := Lib.hid (fun k hk w => (hP.out k hk w).mono (by
    rintro e w' ⟨rfl, hb⟩
    rw [one_cut wd k hk, pre_one left wd[k] hl1, ← hc.out]
    exact ⟨rfl, hb⟩))
  have hbz : (M5.bs wd).size = wd.length := bs_size wd
  have hgoal : ∀ (r : Nat) (w' : World), r ≤ h + 1 → r ≤ wd.length → (∀ u, Low u → IsL wd u h → IsL wd (u ++ [c]) r) → Below wo.heap.size wo w' → StepPost wd h left[0] wo (.returned (.int .i64 (r : Int))) w' := fun r w' h1 h2 h3 hb => ⟨r, ⟨h1, h2, by rw [← hc.out]; exact h3⟩, rfl, hb⟩
  replace hgoal := Lib.hid hgoal
  generalize StepPost wd h left[0] wo = Post at *
  clear hP
  go_enter Try.func96, Try.ntmps96
  go_wp2_with fail
  go_loopw [0] (fun u0 wr => ∃ k : Nat, u0 = .int .i64 (k : Int) ∧ k ≤ h ∧ Below wo.heap.size wo wr ∧ Hid (∀ u, Low u → IsL wd u h → Cand wd u c k)) (fun u0 _ => (intOf u0).toNat)
  case atStart => exact ⟨h, rfl, Nat.le_refl _, Below.refl _ _, Lib.hid (fun u _ hl => cand_of hl)⟩
  case round =>
    obtain ⟨k, rfl, hk, hbw, hcand⟩ := hrel
    have hm1 := hm.below hbw
    have x0 := hm1.word.cell (i := 0) rfl
    have y0 := hm1.slice.cell (i := 0) rfl
    have hrow := rowI_get wd bk k (by omega)
    obtain ⟨r0, rf0⟩ := hm1.row.at hrow
    have hback : (∀ hh : k < wd.length, wd[k] ≠ c) → 1 ≤ k → bk k < k ∧ Hid (∀ u, Low u → IsL wd u h → Cand wd u c (bk k)) := fun he h1 =>
      ⟨(ht k h1 (by omega)).1, Lib.hid (fun u hu hl => cand_miss hu ht h1 (by omega) (by omega) (hcand.out u hu hl) he)⟩
    by_cases hkn : k = wd.length
    · obtain ⟨hb1, hb2⟩ := hback (fun hh => by omega) (by omega)
      have ekn : ((k : Int) == (wd.length : Int)) = true := by rw [beq_iff_eq]; omega
      generalize bk k = b at *
      replace hkn := Lib.hid hkn
      clear hback hcand
      go_wp2_with fail
      go_roundw
      case rel => exact ⟨b, rfl, by omega, hbw, hb2⟩
      case measure => simp [intOf]; omega
    · have ekn : ((k : Int) == (wd.length : Int)) = false := by rw [beq_eq_false_iff_ne]; omega
      have hlt : k < wd.length := by omega
      have hC := Lib.hid (fun w => hQ.out k hlt w)
      have hhit : (c == wd[k]) = true → Hid (∀ u, Low u → IsL wd u h → IsL wd (u ++ [c]) (k + 1)) := fun he => Lib.hid (fun u hu hl => cand_hit (hcand.out u hu hl) hlt (beq_iff_eq.1 he).symm)
      have hzero : (c == wd[k]) = false → k = 0 → Hid (∀ u, Low u → IsL wd u h → IsL wd (u ++ [c]) 0) := fun he h0 => by
        subst h0
        exact Lib.hid (fun u hu hl => cand_zero (hcand.out u hu hl) hlt (fun e => by rw [e, beq_self_eq_true] at he; cases he))
      have hmiss : (c == wd[k]) = false → 1 ≤ k → bk k < k ∧ Hid (∀ u, Low u → IsL wd u h → Cand wd u c (bk k)) := fun he h1 => hback (fun _ e => by rw [← e, beq_self_eq_true] at he; cases he) h1
      generalize (c == wd[k]) = hit at *
      clear hback hcand
      replace hkn := Lib.hid hkn
      cases hit
      · by_cases hk0 : k = 0
        · have hz := hzero rfl hk0
          subst hk0
          clear hzero hhit hmiss
          go_wp2_with fail
          refine (hC.out _).mono ?_
          rintro e1 w2 ⟨rfl, hb2⟩
          go_wp2_with fail
          exact hgoal.out 0 _ (by omega) (by omega) hz.out (bt hbw hb2)
        · obtain ⟨hb1, hb2⟩ := hmiss rfl (by omega)
          generalize bk k = b at *
          clear hzero hhit hmiss
          replace hb2 := Lib.hid hb2
          have hgt : decide ((0 : Int) < (k : Int)) = true := decide_eq_true (by omega)
          go_wp2_with fail
          refine (hC.out _).mono ?_
          rintro e1 w2 ⟨rfl, hbq⟩
          have hm2 := hm1.below hbq
          have x0 := hm2.word.cell (i := 0) rfl
          have y0 := hm2.slice.cell (i := 0) rfl
          obtain ⟨r0, rf0⟩ := hm2.row.at hrow
          go_wp2_with fail
          go_roundw
          case rel => exact ⟨b, rfl, by omega, bt hbw hbq, hb2.out⟩
          case measure => simp [intOf]; omega
      · have hz := hhit rfl
        clear hzero hhit hmiss
        by_cases hk0 : k = 0
        · subst hk0
          go_wp2_with fail
          refine (hC.out _).mono ?_
          rintro e1 w2 ⟨rfl, hb2⟩
          go_wp2_with fail
          exact hgoal.out 1 _ (by omega) (by omega) hz.out (bt hbw hb2)
        · have hgt : decide ((0 : Int) < (k : Int)) = true := decide_eq_true (by omega)
          go_wp2_with fail
          refine (hC.out _).mono ?_
          rintro e1 w2 ⟨rfl, hbq⟩
          have hm2 := hm1.below hbq
          have x0 := hm2.word.cell (i := 0) rfl
          go_wp2_with fail
          refine (hC.out _).mono ?_
          rintro e1 w3 ⟨rfl, hbq3⟩
          go_wp2_with fail
          exact hgoal.out (k + 1) _ (by omega) (by omega) hz.out (bt (bt hbw hbq) hbq3)

end Go.Proofs.Ytbnfaijkmbgpmaa

/- A region that draws its order, by a state of my own: what holds whichever operations stand behind. -/
namespace Go.Proofs.Ytbnfaijkmbgpmaa

def updF (f : Nat → Bool) (i : Nat) : Nat → Bool := fun j => if j = i then true else f j
@[simp] theorem updF_same (f : Nat → Bool) (i : Nat) : updF f i i = true := by simp [updF]
theorem updF_ne (f : Nat → Bool) {i j : Nat} (h : j ≠ i) : updF f i j = f j := by simp [updF, h]
/-- Each operation waits for earlier ones alone. -/
def ordB (md : Region.Mode) (ops : Array Oper) : Bool :=
  (List.range ops.size).all fun i => match ops[i]? with | some o => o.after.all fun e => !Region.binds md e || decide (e.on < i) | none => true
theorem ordB_spec {md : Region.Mode} {ops : Array Oper} (h : ordB md ops = true) {i : Nat} {o : Oper} (hi : ops[i]? = some o) {e : Edge} (he : e ∈ o.after) (hb : Region.binds md e = true) : e.on < i := by
  have hlt := (Array.getElem?_eq_some_iff.1 hi).1
  unfold ordB at h
  rw [List.all_eq_true] at h
  have := h i (List.mem_range.2 hlt)
  rw [hi] at this
  simp only [Array.all_eq_true_iff_forall_mem, Bool.or_eq_true, Bool.not_eq_true', decide_eq_true_eq] at this
  rcases this e he with h | h
  · rw [hb] at h; cases h
  · exact h
def flags (listed : Array Bool) : Nat → Bool := fun i => listed.getD i true
theorem flags_set (listed : Array Bool) (i : Nat) : flags (listed.setIfInBounds i true) = updF (flags listed) i := by
  funext j
  unfold flags updF
  by_cases h : j = i
  · subst h
    rcases Nat.lt_or_ge j listed.size with h | h
    · simp [h]
    · simp
  · rw [if_neg h, getD_set_ne true (Ne.symm h)]
theorem flags_false {listed : Array Bool} {i : Nat} (h : listed.getD i false = true) : flags listed i = true := by
  unfold flags
  rcases Nat.lt_or_ge i listed.size with h' | h'
  · simp [h'] at h ⊢; exact h
  · simp [Array.getElem?_eq_none h'] at h
theorem false_flags {listed : Array Bool} {i : Nat} (hi : i < listed.size) (h : flags listed i = true) : listed.getD i false = true := by
  unfold flags at h
  simp [hi] at h ⊢; exact h

theorem all_of_ready_nil {md : Region.Mode} {ops : Array Oper} (hord : ordB md ops = true) {listed : Array Bool} (hs : listed.size = ops.size) (hr : Region.ready md ops listed = []) :
    ∀ i, i < ops.size → flags listed i = true := by
  intro i
  induction i using Nat.strongRecOn with
  | ind i ih =>
    intro hi
    cases hf : flags listed i with
    | true => rfl
    | false =>
      have : i ∈ Region.ready md ops listed := mem_ready.2 ⟨hf, ops[i], Array.getElem?_eq_getElem hi, fun e he hb => by
        have hlt := ordB_spec hord (Array.getElem?_eq_getElem hi) he hb
        exact false_flags (by rw [hs]; exact Nat.lt_trans hlt hi) (ih e.on hlt (Nat.lt_trans hlt hi))⟩
      rw [hr] at this; cases this

def leftOf (listed : Array Bool) : Nat := listed.toList.countP (fun b => !b)
theorem leftOf_set {listed : Array Bool} {i : Nat} (h : flags listed i = false) : leftOf (listed.setIfInBounds i true) + 1 = leftOf listed := by
  have hi : i < listed.size := by
    rcases Nat.lt_or_ge i listed.size with h' | h'
    · exact h'
    · simp [flags, Array.getElem?_eq_none h'] at h
  have hv : listed.toList[i]'(by simpa using hi) = false := by simpa [flags, hi] using h
  unfold leftOf
  rw [Array.toList_setIfInBounds]
  have h2 : i < listed.toList.length := by simpa using hi
  rw [List.countP_set h2, hv]
  have hp : 0 < listed.toList.countP (fun b => !b) := List.countP_pos_iff.2 ⟨false, by rw [← hv]; exact List.getElem_mem h2, rfl⟩
  simp only [Bool.not_true, Bool.not_false, if_true, Bool.false_eq_true, if_false]
  omega

theorem wpAnyIn_inv {F : Fence} {n : Nat} {P : Program} {md : Region.Mode} {ops : Array Oper} {Q : Exit → Act → World → Prop} (Inv : (Nat → Bool) → Act → World → Prop) (hord : ordB md ops = true)
    (hstep : ∀ i, i < ops.size → ∀ (f : Nat → Bool) (a : Act) (w : World), f i = false → (∀ j, Region.waitsFor md ops i j = true → f j = true) → Inv f a w → wpOpIn F n P ops Q i (Inv (updF f i)) a w)
    (hdone : ∀ (f : Nat → Bool) (a : Act) (w : World), (∀ i, i < ops.size → f i = true) → Inv f a w → Q .normal a w) :
    ∀ (fuel : Nat) (listed : Array Bool) (a : Act) (w : World), listed.size = ops.size → leftOf listed ≤ fuel → Inv (flags listed) a w → wpAnyIn F n P md ops Q fuel listed a w := by
  intro fuel
  induction fuel with
  | zero =>
    intro listed a w hs hl h
    have hr : Region.ready md ops listed = [] := by
      rw [List.eq_nil_iff_forall_not_mem]
      intro i hi
      have := leftOf_set (mem_ready.1 hi).1
      omega
    exact ⟨hr, hdone _ _ _ (all_of_ready_nil hord hs hr) h⟩
  | succ fuel ih =>
    intro listed a w hs hl h
    refine ⟨fun hr => hdone _ _ _ (all_of_ready_nil hord hs hr) h, fun i hi => ?_⟩
    obtain ⟨h0, o, ho, hall⟩ := mem_ready.1 hi
    have hlt := (Array.getElem?_eq_some_iff.1 ho).1
    refine wpOpIn_mono (fun a' w' h' => ih (listed.setIfInBounds i true) a' w' (by simpa using hs) (by have := leftOf_set h0; omega) ?_) (hstep i hlt (flags listed) a w h0 (fun j hj => ?_) h)
    · rw [flags_set]; exact h'
    · obtain ⟨oj, hoj, e, he, hb, rfl⟩ := Region.waitsFor_spec hj
      rw [ho] at hoj; cases hoj
      exact flags_false (hall e he hb)
theorem wpAny_inv {P : Program} {md : Region.Mode} {ops : Array Oper} {Q : Exit → Act → World → Prop} (Inv : (Nat → Bool) → Act → World → Prop) (hord : ordB md ops = true)
    (hstep : ∀ i, i < ops.size → ∀ (f : Nat → Bool) (a : Act) (w : World), f i = false → (∀ j, Region.waitsFor md ops i j = true → f j = true) → Inv f a w → wpOp P ops Q i (Inv (updF f i)) a w)
    (hdone : ∀ (f : Nat → Bool) (a : Act) (w : World), (∀ i, i < ops.size → f i = true) → Inv f a w → Q .normal a w) :
    ∀ (fuel : Nat) (listed : Array Bool) (a : Act) (w : World), listed.size = ops.size → leftOf listed ≤ fuel → Inv (flags listed) a w → wpAny P md ops Q fuel listed a w := by
  intro fuel
  induction fuel with
  | zero =>
    intro listed a w hs hl h
    have hr : Region.ready md ops listed = [] := by
      rw [List.eq_nil_iff_forall_not_mem]
      intro i hi
      have := leftOf_set (mem_ready.1 hi).1
      omega
    exact ⟨hr, hdone _ _ _ (all_of_ready_nil hord hs hr) h⟩
  | succ fuel ih =>
    intro listed a w hs hl h
    refine ⟨fun hr => hdone _ _ _ (all_of_ready_nil hord hs hr) h, fun i hi => ?_⟩
    obtain ⟨h0, o, ho, hall⟩ := mem_ready.1 hi
    have hlt := (Array.getElem?_eq_some_iff.1 ho).1
    refine wpOp_mono (fun a' w' h' => ih (listed.setIfInBounds i true) a' w' (by simpa using hs) (by have := leftOf_set h0; omega) ?_) (hstep i hlt (flags listed) a w h0 (fun j hj => ?_) h)
    · rw [flags_set]; exact h'
    · obtain ⟨oj, hoj, e, he, hb, rfl⟩ := Region.waitsFor_spec hj
      rw [ho] at hoj; cases hoj
      exact flags_false (hall e he hb)
theorem flags_none (k i : Nat) : flags (Array.replicate k false) i = decide (k ≤ i) := by
  unfold flags
  rcases Nat.lt_or_ge i k with h | h
  · simp [h]
  · simp [h]
theorem leftOf_none (k : Nat) : leftOf (Array.replicate k false) ≤ k := by
  unfold leftOf
  have := List.countP_le_length (p := fun b => !b) (l := (Array.replicate k false).toList)
  simpa using this
end Go.Proofs.Ytbnfaijkmbgpmaa

/- A region that draws its order, by what is known of each operation's slot: over XAnyInv. -/
namespace Go.Proofs.Ytbnfaijkmbgpmaa

/-- What operations yielded, by their numbers. -/
def updT (t : Nat → Value) (i : Nat) (v : Value) : Nat → Value := fun j => if j = i then v else t j
@[simp] theorem updT_same (t : Nat → Value) (i : Nat) (v : Value) : updT t i v i = v := by simp [updT]
theorem updT_ne (t : Nat → Value) {i j : Nat} (v : Value) (h : j ≠ i) : updT t i v j = t j := by simp [updT, h]
/-- Of those that stand behind, the value that is known. -/
def Kn (Vs : List (Option Value)) (f : Nat → Bool) (t : Nat → Value) : Prop := ∀ j V, f j = true → Vs[j]? = some (some V) → t j = V
theorem Kn.none (Vs : List (Option Value)) (n : Nat) (h : Vs.length = n) (t : Nat → Value) : Kn Vs (flags (Array.replicate n false)) t := by
  intro j V hf hV
  rw [flags_none] at hf
  have h1 : n ≤ j := by simpa using hf
  rw [List.getElem?_eq_none (by omega)] at hV
  cases hV
theorem Kn.upd {Vs : List (Option Value)} {f : Nat → Bool} {t : Nat → Value} {i : Nat} {v : Value} (h : Kn Vs f t) (hv : ∀ V, Vs[i]? = some (some V) → v = V) : Kn Vs (updF f i) (updT t i v) := by
  intro j V hf hV
  by_cases e : j = i
  · subst e; rw [updT_same]; exact hv V hV
  · rw [updT_ne _ _ e]; rw [updF_ne _ e] at hf; exact h j V hf hV
theorem Kn.at_ {Vs : List (Option Value)} {f : Nat → Bool} {t : Nat → Value} {i : Nat} {v : Value} (h : Kn Vs f t) (hv : Vs[i]? = some (some v)) : Kn Vs (updF f i) (updT t i v) := h.upd (fun V e => by rw [hv] at e; cases e; rfl)
theorem Kn.free {Vs : List (Option Value)} {f : Nat → Bool} {t : Nat → Value} {i : Nat} {v : Value} (h : Kn Vs f t) (hv : Vs[i]? = some .none) : Kn Vs (updF f i) (updT t i v) := h.upd (fun V e => by rw [hv] at e; cases e)

/-- The rule. I f t W: the world, whichever operations stand behind; A t: the frame. -/
theorem wp_region_known {id n : Nat} {P : Program} {ops : Array Oper} {Q : Exit → Act → World → Prop} {a : Act} {w : World} (Vs : List (Option Value)) (A : (Nat → Value) → Act) (I : (Nat → Bool) → (Nat → Value) → World → Prop) (t0 : Nat → Value)
    (hm : P.follows .mixedOrders = true) (hn : ops.size = n) (hl : Vs.length = n) (hord : ordB .any ops = true) (ha : a = A t0) (h0 : I (fun i => decide (n ≤ i)) t0 w.drew)
    (hstep : ∀ i, i < n → ∀ (f : Nat → Bool) (t : Nat → Value) (W : World), f i = false → (∀ j, Region.waitsFor .any ops i j = true → f j = true) → Kn Vs f t → I f t W →
      wpOp P ops Q i (fun a' W' => ∃ v, a' = A (updT t i v) ∧ Kn Vs (updF f i) (updT t i v) ∧ I (updF f i) (updT t i v) W') (A t) W)
    (hdone : ∀ (f : Nat → Bool) (t : Nat → Value) (W : World), (∀ i, i < n → f i = true) → Kn Vs f t → I f t W → Q .normal (A t) W) :
    (Code.region id ops true).wp P Q a w := by
  subst hn
  refine wp_region_any hm ?_
  change wpAny _ _ _ _ _ _ _ w.drew
  refine wpAny_inv (fun f ac W => ∃ t, ac = A t ∧ Kn Vs f t ∧ I f t W) hord ?_ ?_ _ _ _ _ (by simp) (leftOf_none _) ⟨t0, ha, Kn.none Vs _ hl t0, ?_⟩
  · rintro i hi f ac W hfi hwt ⟨t, rfl, hk, hI⟩
    refine wpOp_mono ?_ (hstep i hi f t W hfi hwt hk hI)
    rintro a' W' ⟨v, h1, h2, h3⟩
    exact ⟨_, h1, h2, h3⟩
  · rintro f ac W hall ⟨t, rfl, hk, hI⟩
    exact hdone f t W hall hk hI
  · rw [show flags (Array.replicate ops.size false) = fun i => decide (ops.size ≤ i) from funext (flags_none _)]
    exact h0
end Go.Proofs.Ytbnfaijkmbgpmaa

/- Package token: the closure that tells how much of a word stands right ahead. -/
namespace Go.Proofs.Ytbnfaijkmbgpmaa
open Go.RowKit Kmp

theorem FMem.drewN {wd : List UInt8} {bk : Nat → Nat} {g1 g2 ga : Nat} {w : World} (h : FMem wd bk g1 g2 ga w) (n : Nat) : FMem wd bk g1 g2 ga (w.drewN n) := h.below (below_drewN (Below.refl _ _) n)

theorem FMem.drew {wd : List UInt8} {bk : Nat → Nat} {g1 g2 ga : Nat} {w : World} (h : FMem wd bk g1 g2 ga w) : FMem wd bk g1 g2 ga w.drew := h.drewN 1

def FollowPost (wd : List UInt8) (w : World) (e : Ending) (w' : World) : Prop := ∃ (bk : Nat → Nat) (g1 g2 ga : Nat), e = .returned (.func (.func 96) #[] #[.pointer (some ⟨g1, 0, none⟩), .pointer (some ⟨g2, 0, none⟩)]) ∧ FMem wd bk g1 g2 ga w' ∧ Tab wd bk wd.length ∧ Below w.heap.size w w'

theorem cellB {B : Nat} {w w' : World} (hb : Below B w w') {b o : Nat} {v : Value} (h : w.cell? ⟨b, o, none⟩ = some v) (hlt : b < B) : w'.cell? ⟨b, o, none⟩ = some v := (hb.cell (p := ⟨b, o, none⟩) hlt).trans h

def KmpI (wd : List UInt8) (ga i b : Nat) (c : UInt8) (wr : World) (f : Nat → Bool) (t : Nat → Value) (W : World) : Prop :=
  (f 13 = false → Below wr.heap.size wr W) ∧ (f 11 = true → ∃ r : Nat, t 11 = .int .i64 (r : Int) ∧ Strides wd b c r) ∧
  (f 13 = true → (∀ j, j < 13 → f j = true) ∧ ∃ (r : Nat) (W0 : World), Strides wd b c r ∧ Below wr.heap.size wr W0 ∧ W = W0.setCell ⟨ga, i + 1, none⟩ (.int .i64 (r : Int)))

section

variable {wd : List UInt8} {ga i b : Nat} {c : UInt8} {wr W : World} {f : Nat → Bool} {t : Nat → Value}

theorem KmpI.start (wd : List UInt8) (ga i b : Nat) (c : UInt8) (wr : World) (t : Nat → Value) : KmpI wd ga i b c wr (fun j => decide (14 ≤ j)) t wr.drew :=
  ⟨fun _ => (Below.refl _ wr).drew, fun h => by simp at h, fun h => by simp at h⟩

theorem KmpI.notlast (h : KmpI wd ga i b c wr f t W) {j : Nat} (hj : j < 14) (hf : f j = false) : f 13 = false := by
  cases h13 : f 13
  · rfl
  · rcases Nat.lt_or_ge j 13 with hl | hl
    · have := (h.2.2 h13).1 j hl
      rw [hf] at this
      cases this
    · obtain rfl : j = 13 := by omega
      rw [h13] at hf
      cases hf

theorem KmpI.same (h : KmpI wd ga i b c wr f t W) (j : Nat) (v : Value) (h1 : j ≠ 11) (h2 : j ≠ 13) : KmpI wd ga i b c wr (updF f j) (updT t j v) W := by
  refine ⟨fun e => h.1 (by rwa [updF_ne f (Ne.symm h2)] at e), fun e => ?_, fun e => ?_⟩
  · rw [updF_ne f (Ne.symm h1)] at e
    obtain ⟨r, e1, e2⟩ := h.2.1 e
    exact ⟨r, by simpa [updT, Ne.symm h1] using e1, e2⟩
  · rw [updF_ne f (Ne.symm h2)] at e
    obtain ⟨e1, e2⟩ := h.2.2 e
    exact ⟨fun k hk => by unfold updF; split; rfl; exact e1 k hk, e2⟩

theorem KmpI.call (h : KmpI wd ga i b c wr f t W) (h13 : f 13 = false) {r : Nat} {W' : World} (hr : Strides wd b c r) (hb : Below W.heap.size W W') : KmpI wd ga i b c wr (updF f 11) (updT t 11 (.int .i64 (r : Int))) W' := by
  refine ⟨fun _ => bt (h.1 h13) hb, fun _ => ⟨r, by simp [updT], hr⟩, fun e => ?_⟩
  rw [updF_ne f (by omega), h13] at e
  cases e

theorem KmpI.put (h : KmpI wd ga i b c wr f t W) (h13 : f 13 = false) {r : Nat} (hr : Strides wd b c r) (hall : ∀ j, j < 13 → f j = true) (v : Value) : KmpI wd ga i b c wr (updF f 13) (updT t 13 v) (W.setCell ⟨ga, i + 1, none⟩ (.int .i64 (r : Int))) := by
  refine ⟨fun e => by simp at e, fun e => ?_, fun _ => ⟨fun k hk => by unfold updF; split; rfl; exact hall k hk, r, W, hr, h.1 h13, rfl⟩⟩
  rw [updF_ne f (by omega)] at e
  obtain ⟨r', e1, e2⟩ := h.2.1 e
  exact ⟨r', by simpa [updT] using e1, e2⟩
end

theorem infoInt : (Try.prog.info? 3).map (fun i => (i.zero, i.size, i.bytes)) = some (some (.int .i64 0), 1, 8) := by kernel_rfl

theorem made_row (wd : List UInt8) (bk : Nat → Nat) (h : ∀ j, bk j = 0) : (madeCells (Value.int .i64 0).cells ((wd.length + 1) * 1)).toList = rowI wd bk := by
  unfold madeCells rowI
  rw [Array.toList_map, Array.toList_range, Nat.mul_one]
  refine List.map_congr_left (fun j _ => ?_)
  rw [h j]
  show #[Value.int .i64 0][j % 1]! = _
  rw [Nat.mod_one]
  rfl

theorem mutRow_own {w : World} {base g n cap : Nat} {e : TypeId} {xs : List Value} (h : w.ownsRow base e 1 (.slice (some ⟨g, 0, none⟩) n cap) n xs) (hx : xs.length = n) : MutRow w g xs := fun j hj => by
  refine ⟨?_, h.frozenAt j⟩
  rw [h.cellAt j (by omega)]
  exact List.getElem?_eq_getElem hj

theorem rowI_set (wd : List UInt8) (bk : Nat → Nat) (i r : Nat) : (rowI wd bk).set i (.int .i64 (r : Int)) = rowI wd (fun j => if j = i then r else bk j) := by
  apply List.ext_getElem?
  intro j
  unfold rowI
  rw [List.getElem?_set, List.getElem?_map, List.getElem?_map, List.length_map, List.length_range]
  by_cases hj : j < wd.length + 1
  · rw [List.getElem?_range hj]
    by_cases e : i = j
    · subst e
      simp [hj]
    · simp [e, Ne.symm e]
  · rw [List.getElem?_eq_none (by simp; omega)]
    simp
    omega

set_option maxHeartbeats 4000000 in
set_option maxRecDepth 100000 in
theorem tokFollow (wd : List UInt8) (w : World) (hw1 : 0 < wd.length) (hw2 : wd.length ≤ 1073741826) : Calls Try.prog 69 #[.string (M5.bs wd)] w (FollowPost wd w) := by
  obtain ⟨wo, rfl⟩ : ∃ wo : World, wo = w := ⟨_, rfl⟩
  have hbz : (M5.bs wd).size = wd.length := bs_size wd
  have hE : ∀ (args : Array Value) (w : World), (callFunc 96 args).run Try.prog w = .ok (.enter 96 args) w := enters_of Try.func96 (by kernel_rfl) rfl
  go_enter Try.func69, Try.ntmps69
  obtain ⟨i0, hi, hz0, hz1, hz2⟩ := info_parts infoInt
  have bw0 := Box.new wo 9 [.string (M5.bs wd)]
  have hb0 := Lib.hid ((Below.refl _ wo).alloc (Nat.le_refl _) (.cells #[.string (M5.bs wd)] 9))
  go_wp2_with (at_make; refine wpList_make_full _ rfl _ _ 96 rfl (wo.heap.size + 1) 3 i0 (.int .i64 0) 1 Try.underlying96 hi hz0 hz1 .i64 .i64 _ _ (wd.length + 1) rfl rfl (by omega) (by omega) (by rw [hz2]; omega) (by unfold maxLen; omega) (by simp) ?_; intro w1 hown1 hgrow1)
  have hz : (wo.alloc (.cells #[.string (M5.bs wd)] 9)).heap.size = wo.heap.size + 1 := by simp
  rw [hz] at hown1
  have hr1 := mutRow_own hown1 (by rw [made_row wd (fun _ => 0) (fun _ => rfl), rowI_len])
  rw [made_row wd (fun _ => 0) (fun _ => rfl)] at hr1
  have bw1 := bw0.keep (hgrow1.block _ bw0.lt (by simp))
  have hb1 := hb0.out.grown hgrow1 hb0.out.size (fun k hk => by cases hk)
  have hgs : wo.heap.size + 1 < w1.heap.size := mutRow_lt hr1 (by rw [rowI_len]; omega)
  obtain ⟨g1, hg1⟩ : ∃ g, g = wo.heap.size := ⟨_, rfl⟩
  obtain ⟨ga, hga⟩ : ∃ g, g = wo.heap.size + 1 := ⟨_, rfl⟩
  obtain ⟨g2, hg2⟩ : ∃ g, g = w1.heap.size := ⟨_, rfl⟩
  have hm0 : FMem wd (fun _ => 0) g1 g2 ga (w1.alloc (.cells #[.slice (some ⟨ga, 0, none⟩) (wd.length + 1) (wd.length + 1)] 96)) := by
    rw [hg1, hg2, hga]
    exact ⟨bw1.alloc _, Box.new w1 96 [.slice (some ⟨wo.heap.size + 1, 0, none⟩) (wd.length + 1) (wd.length + 1)], fun j hj => by
      obtain ⟨h1, h2⟩ := hr1 j hj
      have hb := (Below.refl w1.heap.size w1).alloc (Nat.le_refl _) (.cells #[.slice (some ⟨wo.heap.size + 1, 0, none⟩) (wd.length + 1) (wd.length + 1)] 96)
      exact ⟨by rw [hb.cell (p := ⟨wo.heap.size + 1, j, none⟩) hgs]; exact h1, by rw [hb.frozen (p := ⟨wo.heap.size + 1, j, none⟩) hgs]; exact h2⟩⟩
  have hb2 := hb1.alloc hb1.size (.cells #[.slice (some ⟨ga, 0, none⟩) (wd.length + 1) (wd.length + 1)] 96)
  have hne1 : g1 ≠ ga := by omega
  have hne2 : g2 ≠ ga := by omega
  have hga2 : wo.heap.size ≤ ga := by omega
  rw [← hga, ← hg1, ← hg2]
  clear hg1 hga hg2 hgs hr1 bw1 bw0 hb0 hb1 hown1 hgrow1 hz hi hz0 hz1 hz2
  go_loopw [5] (fun u5 wr => ∃ (i : Nat) (bk : Nat → Nat), u5 = .int .i64 (i : Int) ∧ 1 ≤ i ∧ i ≤ wd.length ∧ FMem wd bk g1 g2 ga wr ∧ Hid (Tab wd bk i) ∧ Below wo.heap.size wo wr) (fun u5 _ => wd.length - (intOf u5).toNat)
  case atStart => exact ⟨1, fun _ => 0, rfl, Nat.le_refl _, hw1, hm0, Lib.hid (tab_one wd _ rfl), hb2⟩
  case round =>
    obtain ⟨i, bk, rfl, hi1, hin, hm, ht, hbw⟩ := hrel
    have x0 := hm.word.cell (i := 0) rfl
    have y0 := hm.slice.cell (i := 0) rfl
    by_cases hlt : i < wd.length
    · have hlti : decide ((i : Int) < (wd.length : Int)) = true := decide_eq_true (by omega)
      have hrow := rowI_get wd bk i (by omega)
      obtain ⟨r0, rf0⟩ := hm.row.at hrow
      have hx : ((M5.bs wd).extract i wd.length).size = wd.length - i := by rw [ByteArray.size_extract, hbz]; omega
      have hc0 : ∀ h : 0 < ((M5.bs wd).extract i wd.length).size, ((M5.bs wd).extract i wd.length)[0] = wd[i] := fun h => by
        have h1 := drop_cons ((M5.bs wd).extract i wd.length) 0 h
        rw [List.drop_zero, Lib.extract_data, M5.bs_data, List.take_of_length_le (by rw [List.length_drop]; exact Nat.le_refl _), List.drop_eq_getElem_cons hlt] at h1
        exact (List.cons.inj h1).1.symm
      have hbki : bk i < i := (ht.out i hi1 (Nat.le_refl _)).1
      have hS : Hid (∀ w', FMem wd bk g1 g2 ga w' → Calls Try.prog 96 #[.int .i64 (bk i : Int), .string ((M5.bs wd).extract i wd.length), .pointer (some ⟨g1, 0, none⟩), .pointer (some ⟨g2, 0, none⟩)] w' (StepPost wd (bk i) wd[i] w')) := Lib.hid (fun w' h => by
        have h0 : 0 < ((M5.bs wd).extract i wd.length).size := by omega
        have := tokStep wd bk (bk i) i ((M5.bs wd).extract i wd.length) w' g1 g2 ga h hw1 (by omega) (by omega) (by omega) ht.out h0 (by omega)
        rw [hc0 h0] at this
        exact this)
      generalize hbk : bk i = b at *
      replace hbk := Lib.hid hbk
      clear hc0
      have hwrap : IntKind.i64.wrap ((i : Int) + 1) = (i : Int) + 1 := IntWalk.i64_in _ ⟨by omega, by omega⟩
      have hgl : ga < wr.heap.size := mutRow_lt hm.row (by rw [rowI_len]; omega)
      have c1 : (0 : Int) ≤ (i : Int) := by omega
      have c2 : (i : Int) ≤ (wd.length : Int) := by omega
      have c3 : (i : Int) < (wd.length : Int) + 1 := by omega
      have c4 : (0 : Int) ≤ (i : Int) + 1 := by omega
      have c5 : (i : Int) + 1 < (wd.length : Int) + 1 := by omega
      go_wp2_with fail
      refine wp_region_known (n := 14) ([some (.slice (some ⟨ga, 0, none⟩) (wd.length + 1) (wd.length + 1)), some (Value.int IntKind.i64 (i : Int)), some (.int .i64 ((i : Int) + 1)), some (Value.func (Fn.func 96) #[] #[Value.pointer (some ⟨g1, 0, none⟩), Value.pointer (some ⟨g2, 0, none⟩)]), some (.slice (some ⟨ga, 0, none⟩) (wd.length + 1) (wd.length + 1)), some (Value.int IntKind.i64 (i : Int)), some (.pointer (some ⟨ga, i, none⟩)), some (.int .i64 (b : Int)), some (.string (M5.bs wd)), some (Value.int IntKind.i64 (i : Int)), some (.string ((M5.bs wd).extract i wd.length)), none, some (.pointer (some ⟨ga, i + 1, none⟩)), none] : List (Option Value)) (fun t => ⟨#[Value.string (M5.bs wd), Value.pointer (some ⟨g1, 0, none⟩), Value.nilFunc, Value.pointer (some ⟨g2, 0, none⟩), Value.func (Fn.func 96) #[] #[Value.pointer (some ⟨g1, 0, none⟩), Value.pointer (some ⟨g2, 0, none⟩)], Value.int IntKind.i64 (i : Int), Value.string (M5.bs wd), Value.int IntKind.i64 (wd.length : Int), Value.int IntKind.i64 ((wd.length : Int) + 1), Value.slice (some ⟨ga, 0, none⟩) (wd.length + 1) (wd.length + 1), Value.func (Fn.func 96) #[] #[Value.pointer (some ⟨g1, 0, none⟩), Value.pointer (some ⟨g2, 0, none⟩)], Value.int IntKind.i64 (i : Int), Value.string (M5.bs wd), Value.int IntKind.i64 (wd.length : Int), Value.bool true, u15, u16, t 0, t 1, t 2, t 3, t 4, t 5, t 6, t 7, t 8, t 9, t 10, t 11, t 12, undef], []⟩) (fun f t W => KmpI wd ga i b wd[i] wr f t W) (fun j => match j with | 0 => u17 | 1 => u18 | 2 => u19 | 3 => u20 | 4 => u21 | 5 => u22 | 6 => u23 | 7 => u24 | 8 => u25 | 9 => u26 | 10 => u27 | 11 => u28 | 12 => u29 | _ => undef) (by kernel_rfl) (by rfl) (by rfl) (by kernel_rfl) rfl ?i0 ?step ?fin
      case i0 =>
        exact KmpI.start _ _ _ _ _ _ _
      case step =>
        intro j0 hj0 f t W hfi hwt hk2 hI
        have h13 := hI.notlast hj0 hfi
        have hlow := hI.1 h13
        have s0 := cellB hlow x0 hm.word.lt
        have s1 := cellB hlow y0 hm.slice.lt
        have s2 := cellB hlow r0 hgl
        have s3 := Lib.hid (hm.below hlow)
        clear hlow h13
        obtain rfl | rfl | rfl | rfl | rfl | rfl | rfl | rfl | rfl | rfl | rfl | rfl | rfl | rfl : j0 = 0 ∨ j0 = 1 ∨ j0 = 2 ∨ j0 = 3 ∨ j0 = 4 ∨ j0 = 5 ∨ j0 = 6 ∨ j0 = 7 ∨ j0 = 8 ∨ j0 = 9 ∨ j0 = 10 ∨ j0 = 11 ∨ j0 = 12 ∨ j0 = 13 := by omega
        · -- operation 0
          replace hI := Lib.hid hI
          replace hI := Lib.hid hI
          replace hk2 := Lib.hid hk2
          clear hwt
          refine wpOp_step rfl (fun K hK => ?_)
          go_simp
          exact hK _ _ ⟨_, by simp [updT], hk2.out.at_ rfl, hI.out.same _ _ (by decide) (by decide)⟩
        · -- operation 1
          replace hI := Lib.hid hI
          replace hI := Lib.hid hI
          replace hk2 := Lib.hid hk2
          clear hwt
          refine wpOp_step rfl (fun K hK => ?_)
          go_simp
          exact hK _ _ ⟨_, by simp [updT], hk2.out.at_ rfl, hI.out.same _ _ (by decide) (by decide)⟩
        · -- operation 2
          have e1 : t 1 = Value.int IntKind.i64 (i : Int) := hk2 1 _ (hwt 1 (by kernel_rfl)) rfl
          replace hI := Lib.hid hI
          replace hI := Lib.hid hI
          replace hk2 := Lib.hid hk2
          clear hwt
          refine wpOp_step rfl (fun K hK => ?_)
          go_simp
          exact hK _ _ ⟨_, by simp [updT, e1], hk2.out.at_ rfl, hI.out.same _ _ (by decide) (by decide)⟩
        · -- operation 3
          replace hI := Lib.hid hI
          replace hI := Lib.hid hI
          replace hk2 := Lib.hid hk2
          clear hwt
          refine wpOp_step rfl (fun K hK => ?_)
          go_simp
          exact hK _ _ ⟨_, by simp [updT], hk2.out.at_ rfl, hI.out.same _ _ (by decide) (by decide)⟩
        · -- operation 4
          replace hI := Lib.hid hI
          replace hI := Lib.hid hI
          replace hk2 := Lib.hid hk2
          clear hwt
          refine wpOp_step rfl (fun K hK => ?_)
          go_simp
          exact hK _ _ ⟨_, by simp [updT], hk2.out.at_ rfl, hI.out.same _ _ (by decide) (by decide)⟩
        · -- operation 5
          replace hI := Lib.hid hI
          replace hI := Lib.hid hI
          replace hk2 := Lib.hid hk2
          clear hwt
          refine wpOp_step rfl (fun K hK => ?_)
          go_simp
          exact hK _ _ ⟨_, by simp [updT], hk2.out.at_ rfl, hI.out.same _ _ (by decide) (by decide)⟩
        · -- operation 6
          have e4 : t 4 = .slice (some ⟨ga, 0, none⟩) (wd.length + 1) (wd.length + 1) := hk2 4 _ (hwt 4 (by kernel_rfl)) rfl
          have e5 : t 5 = Value.int IntKind.i64 (i : Int) := hk2 5 _ (hwt 5 (by kernel_rfl)) rfl
          replace hI := Lib.hid hI
          replace hI := Lib.hid hI
          replace hk2 := Lib.hid hk2
          clear hwt
          refine wpOp_step rfl (fun K hK => ?_)
          go_simp
          exact hK _ _ ⟨_, by simp [updT, e4, e5], hk2.out.at_ rfl, hI.out.same _ _ (by decide) (by decide)⟩
        · -- operation 7
          have e6 : t 6 = .pointer (some ⟨ga, i, none⟩) := hk2 6 _ (hwt 6 (by kernel_rfl)) rfl
          replace hI := Lib.hid hI
          replace hI := Lib.hid hI
          replace hk2 := Lib.hid hk2
          clear hwt
          refine wpOp_step rfl (fun K hK => ?_)
          go_simp
          exact hK _ _ ⟨_, by simp [updT, e6], hk2.out.at_ rfl, hI.out.same _ _ (by decide) (by decide)⟩
        · -- operation 8
          replace hI := Lib.hid hI
          replace hI := Lib.hid hI
          replace hk2 := Lib.hid hk2
          clear hwt
          refine wpOp_step rfl (fun K hK => ?_)
          go_simp
          exact hK _ _ ⟨_, by simp [updT], hk2.out.at_ rfl, hI.out.same _ _ (by decide) (by decide)⟩
        · -- operation 9
          replace hI := Lib.hid hI
          replace hI := Lib.hid hI
          replace hk2 := Lib.hid hk2
          clear hwt
          refine wpOp_step rfl (fun K hK => ?_)
          go_simp
          exact hK _ _ ⟨_, by simp [updT], hk2.out.at_ rfl, hI.out.same _ _ (by decide) (by decide)⟩
        · -- operation 10
          have e8 : t 8 = .string (M5.bs wd) := hk2 8 _ (hwt 8 (by kernel_rfl)) rfl
          have e9 : t 9 = Value.int IntKind.i64 (i : Int) := hk2 9 _ (hwt 9 (by kernel_rfl)) rfl
          replace hI := Lib.hid hI
          replace hI := Lib.hid hI
          replace hk2 := Lib.hid hk2
          clear hwt
          refine wpOp_step rfl (fun K hK => ?_)
          go_simp
          exact hK _ _ ⟨_, by simp [updT, e8, e9], hk2.out.at_ rfl, hI.out.same _ _ (by decide) (by decide)⟩
        · -- operation 11
          have e3 : t 3 = Value.func (Fn.func 96) #[] #[Value.pointer (some ⟨g1, 0, none⟩), Value.pointer (some ⟨g2, 0, none⟩)] := hk2 3 _ (hwt 3 (by kernel_rfl)) rfl
          have e7 : t 7 = .int .i64 (b : Int) := hk2 7 _ (hwt 7 (by kernel_rfl)) rfl
          have e10 : t 10 = .string ((M5.bs wd).extract i wd.length) := hk2 10 _ (hwt 10 (by kernel_rfl)) rfl
          have hC := Lib.hid (hS.out W s3.out)
          have h13 := hI.notlast hj0 hfi
          replace hk2 := Lib.hid hk2
          replace hI := Lib.hid hI
          clear hwt
          refine wpOp_step rfl (fun K hK => ?_)
          go_simp
          refine hC.out.mono ?_
          rintro e w5 ⟨r, hr, rfl, hb5⟩
          exact hK _ _ ⟨_, by simp [updT, e3, e7, e10], hk2.out.free rfl, hI.out.call h13 hr hb5⟩
        · -- operation 12
          have e0 : t 0 = .slice (some ⟨ga, 0, none⟩) (wd.length + 1) (wd.length + 1) := hk2 0 _ (hwt 0 (by kernel_rfl)) rfl
          have e2 : t 2 = .int .i64 ((i : Int) + 1) := hk2 2 _ (hwt 2 (by kernel_rfl)) rfl
          replace hI := Lib.hid hI
          replace hI := Lib.hid hI
          replace hk2 := Lib.hid hk2
          clear hwt
          refine wpOp_step rfl (fun K hK => ?_)
          go_simp
          exact hK _ _ ⟨_, by simp [updT, e0, e2], hk2.out.at_ rfl, hI.out.same _ _ (by decide) (by decide)⟩
        · -- operation 13
          have e12 : t 12 = .pointer (some ⟨ga, i + 1, none⟩) := hk2 12 _ (hwt 12 (by kernel_rfl)) rfl
          obtain ⟨r, e11, hr⟩ := hI.2.1 (hwt 11 (by kernel_rfl))
          obtain ⟨q0, qf0⟩ := s3.out.row.at (rowI_get wd bk (i + 1) (by omega))
          have hput := hI.put hfi hr (fun j hj => by
            rcases (by omega : j = 0 ∨ j = 1 ∨ j = 2 ∨ j = 3 ∨ j = 4 ∨ j = 5 ∨ j = 6 ∨ j = 7 ∨ j = 8 ∨ j = 9 ∨ j = 10 ∨ j = 11 ∨ j = 12) with rfl | rfl | rfl | rfl | rfl | rfl | rfl | rfl | rfl | rfl | rfl | rfl | rfl <;> exact hwt _ (by kernel_rfl)) undef
          replace hput := Lib.hid hput
          replace hk2 := Lib.hid hk2
          replace hI := Lib.hid hI
          clear hwt
          refine wpOp_step rfl (fun K hK => ?_)
          go_simp
          exact hK _ _ ⟨undef, by simp [updT, e11, e12], hk2.out.free rfl, hput.out⟩
      case fin =>
        intro f t W hall hk2 hI
        obtain ⟨_, r, W0, hr, hb0, rfl⟩ := hI.2.2 (hall 13 (by omega))
        clear hk2 hall hI
        have hm2 := hm.below hb0
        have hrow2 := hm2.row.set (k := i + 1) (by rw [rowI_len]; omega) (.int .i64 (r : Int))
        rw [rowI_set] at hrow2
        have hbF : Below wo.heap.size wo (W0.setCell ⟨ga, i + 1, none⟩ (.int .i64 (r : Int))) := (bt hbw hb0).setCell (p := ⟨ga, i + 1, none⟩) hga2 _
        have hmF : FMem wd (fun j => if j = i + 1 then r else bk j) g1 g2 ga (W0.setCell ⟨ga, i + 1, none⟩ (.int .i64 (r : Int))) := ⟨hm2.word.far hne1 _, hm2.slice.far hne2 _, hrow2⟩
        have htF := Lib.hid (tab_next hi1 hlt ht.out r (by rw [hbk.out]; exact hr))
        replace hmF := Lib.hid hmF
        go_wp2_with fail
        refine ⟨⟨_, _, _, _, _, _, _, _, _, _, _, _, _, _, _, _, _, _, _, _, ?rel, rfl⟩, ?measure⟩
        case rel => exact ⟨i + 1, fun j => if j = i + 1 then r else bk j, by go_num, by omega, by omega, hmF.out, htF, hbF⟩
        case measure => exact rf_meas hlt
    · obtain rfl : i = wd.length := by omega
      go_wp2_with fail
      go_ret
      exact ⟨bk, g1, g2, ga, rfl, hm, ht.out, hbw⟩

end Go.Proofs.Ytbnfaijkmbgpmaa

/- Package token: where a raw element ends; its content. -/
namespace Go.Proofs.Ytbnfaijkmbgpmaa
open Go.RowKit Kmp

theorem flat_edge : Flat edgeB := flat_of (by decide +kernel)

theorem flat_ask (q : UInt8 → Bool) (hq : Flat q) (c : UInt8) : q c = askR q c.toNat := by
  by_cases h : c.toNat < 128
  · rw [ask_low q c h]
  · unfold askR
    rw [if_neg h, hq c (by omega)]

set_option maxHeartbeats 4000000 in
set_option maxRecDepth 100000 in
theorem tokEnds (s nm : ByteArray) (w : World) (hs : s.size ≤ 1073741824) (hn : nm.size ≤ 1073741824) :
    Calls Try.prog 52 #[.string s, .string nm] w (EndsPost (M5.endsL ([60, 47] ++ nm.data.toList) s.data.toList) w) := by
  obtain ⟨wd, hwd⟩ : ∃ wd : List UInt8, wd = [60, 47] ++ nm.data.toList := ⟨_, rfl⟩
  have hwl : wd.length = 2 + nm.size := by rw [hwd, List.length_append]; show 2 + nm.size = _; rfl
  have hW : (⟨#[60, 47]⟩ : ByteArray) ++ nm = M5.bs wd := by
    apply ByteArray.ext
    apply Array.ext'
    rw [M5.bs_data, hwd, ByteArray.data_append, Array.toList_append]
  rw [← hwd]
  have hsl : s.data.toList.length = s.size := rfl
  obtain ⟨R, hR⟩ : ∃ R, Hid (R = M5.endsL wd s.data.toList) := ⟨_, rfl⟩
  rw [← hR.out]
  have hF := Lib.hid (fun w => tokFollow wd w (by omega) (by omega))
  have hadd : ¬ 9223372036854775807 < 2 + nm.size := by omega
  have hE : ∀ (args : Array Value) (w : World), (callFunc 96 args).run Try.prog w = .ok (.enter 96 args) w := enters_of Try.func96 (by kernel_rfl) rfl
  have hbz : (M5.bs wd).size = wd.length := bs_size wd
  have hwb1 : 0 < wd.length := by omega
  have hwb2 : wd.length ≤ 1073741826 := by omega
  replace hwd := Lib.hid hwd
  obtain ⟨wo, rfl⟩ : ∃ wo : World, wo = w := ⟨_, rfl⟩
  go_enter Try.func52, Try.ntmps52
  go_wp2_with fail
  replace hwl := Lib.hid hwl
  refine (hF.out _).mono ?_
  rintro e1 w1 ⟨bk, g1, g2, ga, rfl, hm, ht, hb1⟩
  replace ht := Lib.hid ht
  go_wp2_with fail
  go_loopw [7, 15] (fun u7 u15 wr => ∃ (i h : Nat), u7 = .int .i64 (h : Int) ∧ u15 = .int .i64 (i : Int) ∧ i ≤ s.size ∧ FMem wd bk g1 g2 ga wr ∧ Hid (IsL wd (M1.fold (s.data.toList.take i)) h) ∧ Hid (∀ k, k + wd.length < i → ¬ Hit wd s.data.toList k) ∧ Below wo.heap.size wo wr) (fun _ u15 _ => s.size - (intOf u15).toNat)
  case atStart => exact ⟨0, 0, rfl, rfl, Nat.zero_le _, hm, Lib.hid (isL_nil wd), Lib.hid (fun k hk => by omega), hb1⟩
  case round =>
    obtain ⟨i, h, rfl, rfl, hi, hm, hL, hno, hbw⟩ := hrel
    by_cases hlt : i < s.size
    · have hh : h ≤ wd.length := hL.out.1
      have hx : (s.extract i s.size).size = s.size - i := by rw [ByteArray.size_extract]; omega
      have hc0 : ∀ h : 0 < (s.extract i s.size).size, (s.extract i s.size)[0] = s[i] := fun h => by
        have h1 := drop_cons (s.extract i s.size) 0 h
        rw [List.drop_zero, Lib.extract_data, List.take_of_length_le (by rw [List.length_drop]; exact Nat.le_refl _), drop_cons s i hlt] at h1
        exact (List.cons.inj h1).1.symm
      have hS : Hid (∀ w', FMem wd bk g1 g2 ga w' → Calls Try.prog 96 #[.int .i64 (h : Int), .string (s.extract i s.size), .pointer (some ⟨g1, 0, none⟩), .pointer (some ⟨g2, 0, none⟩)] w' (StepPost wd h s[i] w')) := Lib.hid (fun w' hm' => by
        have h0 : 0 < (s.extract i s.size).size := by omega
        have := tokStep wd bk h wd.length (s.extract i s.size) w' g1 g2 ga hm' (by omega) (by omega) hh hh ht.out h0 (by omega)
        rw [hc0 h0] at this
        exact this)
      have hLe : Hid (∀ w, Calls Try.prog 70 #[.int .i32 (wrap32 (s[i].toNat : Int))] w (BoolPost (edgeB s[i]) w)) := Lib.hid (fun w => by
        rw [wrap32_byte]
        have := tokLeaves s[i].toNat w
        rwa [← flat_ask edgeB flat_edge] at this)
      have hgo : (h = wd.length ∧ edgeB s[i] = true → False) → ∀ r, Strides wd h s[i] r → Hid (IsL wd (M1.fold (s.data.toList.take (i + 1))) r) ∧ Hid (∀ k, k + wd.length < i + 1 → ¬ Hit wd s.data.toList k) := fun hne r hr => by
        refine ⟨Lib.hid ?_, Lib.hid (fun k hk hh' => ?_)⟩
        · have e := fold_snoc s.data.toList i hlt
          have := hr.2.2 _ (low_fold _) hL.out
          rw [e]
          exact this
        · rcases Nat.lt_or_ge (k + wd.length) i with hk2 | hk2
          · exact hno.out k hk2 hh'
          · have hki : k = i - wd.length := by omega
            rw [hki] at hh'
            exact hne ((hit_iff hlt hL.out (by omega)).1 hh')
      by_cases hhn : h = wd.length
      · have ekn : ((h : Int) == (wd.length : Int)) = true := by rw [beq_iff_eq]; omega
        cases hed : edgeB s[i]
        · rw [hed] at hLe hgo
          have hgo2 := Lib.hid (hgo (fun e => by cases e.2))
          replace hhn := Lib.hid hhn
          clear hgo hc0
          go_wp2_with fail
          refine (hLe.out _).mono ?_
          rintro e1 w2 ⟨rfl, rfl⟩
          go_wp2_with fail
          refine (hS.out _ hm).mono ?_
          rintro e1 w2 ⟨r, hr, rfl, hb2⟩
          obtain ⟨hL2, hno2⟩ := hgo2.out r hr
          have hm2 := Lib.hid (hm.below hb2)
          have hbw2 := Lib.hid (bt hbw hb2)
          clear hm hbw hb2
          go_wp2_with fail
          go_roundw
          case rel => exact ⟨i + 1, r, rfl, by go_num, by omega, hm2.out, hL2, hno2, hbw2.out⟩
          case measure => exact rf_meas hlt
        · have hni : wd.length ≤ i := by
            have := hL.out.2.1.length_le
            rw [hhn, List.take_length] at this
            unfold M1.fold at this
            rw [List.length_map, List.length_take] at this
            omega
          have hres : R = some (i - wd.length) := by
            rw [hR.out]
            exact ends_some wd _ _ ((hit_iff hlt hL.out hni).2 ⟨hhn, hed⟩) (fun k hk => hno.out k (by omega))
          rw [hed] at hLe
          replace hres := Lib.hid hres
          clear hgo hc0
          go_wp2_with fail
          refine (hLe.out _).mono ?_
          rintro e1 w2 ⟨rfl, rfl⟩
          go_wp2_with fail
          go_ret
          exact ⟨by rw [hres.out]; show _ = Ending.returned (.int .i64 ((i - wd.length : Nat) : Int)); rw [Int.ofNat_sub hni]; rfl, hbw⟩
      · have ekn : ((h : Int) == (wd.length : Int)) = false := by rw [beq_eq_false_iff_ne]; omega
        have hgo2 := Lib.hid (hgo (fun e => hhn e.1))
        replace hhn := Lib.hid hhn
        clear hgo hc0
        go_wp2_with fail
        refine (hS.out _ hm).mono ?_
        rintro e1 w2 ⟨r, hr, rfl, hb2⟩
        obtain ⟨hL2, hno2⟩ := hgo2.out r hr
        have hm2 := Lib.hid (hm.below hb2)
        have hbw2 := Lib.hid (bt hbw hb2)
        clear hm hbw hb2
        go_wp2_with fail
        go_roundw
        case rel => exact ⟨i + 1, r, rfl, by go_num, by omega, hm2.out, hL2, hno2, hbw2.out⟩
        case measure => exact rf_meas hlt
    · have hres : R = none := by
        rw [hR.out]
        exact ends_none wd _ (fun k hk => hno.out k (by obtain ⟨_, h2, _⟩ := hk; omega) hk)
      replace hres := Lib.hid hres
      go_wp2_with fail
      go_ret
      exact ⟨by rw [hres.out]; rfl, hbw⟩

theorem ends_le (wd : List UInt8) : ∀ (l : List UInt8) (k : Nat), M5.endsL wd l = some k → k ≤ l.length := by
  intro l
  induction l with
  | nil => intro k h; cases h
  | cons c r ih =>
    intro k h
    by_cases h0 : Hit wd (c :: r) 0
    · rw [(ends_cons wd c r).1 h0] at h
      cases h
      exact Nat.zero_le _
    · rw [(ends_cons wd c r).2 h0] at h
      cases hr : M5.endsL wd r with
      | none => rw [hr] at h; cases h
      | some j =>
        rw [hr] at h
        have := ih j hr
        have h' : j + 1 = k := by simpa using h
        simp only [List.length_cons]
        omega

end Go.Proofs.Ytbnfaijkmbgpmaa
