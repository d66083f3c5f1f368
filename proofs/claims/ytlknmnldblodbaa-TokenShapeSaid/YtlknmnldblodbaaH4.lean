/- Texts joined: Tok1, Tok2, Math5c, Tok3, Tok4, Tok5, Math5d, Shelf5, Tok6, Tok7, Tok8, Math5e, Tok9. -/
import Derived.Lib.CutLaws
import Derived.Test.YtlknmnldblodbaaRows
import Derived.Shelf.Strings.Builder1
import Derived.Shelf.Small.Strs
import Derived.Shelf.Strings.BuilderF
import Derived.Shelf.Strings.BuilderK
import Derived.Shelf.Strings.BuilderRune
import Derived.Shelf.LaysM
import Derived.Shelf.Strconv.Clone
import Derived.Shelf.Strings.Search1
import Derived.Shelf.Strings.Search2
import Derived.Shelf.Strings.Search3
import Derived.Shelf.Strings.Cut
import Derived.Shelf.Strings.Shaped
import Derived.Shelf.Strings.Prefix
import Derived.Maps.OwnSet
import Derived.Maps.AppendAt
import Derived.Test.YtlknmnldblodbaaH1
import Derived.Test.YtlknmnldblodbaaH2
import Derived.Test.YtlknmnldblodbaaH3
/- Package token: what closures ask of runes; a text's part that they take. -/
namespace Go.Proofs.Ytlknmnldblodbaa
open Go.RowKit

/-! ### Runes and their bytes -/
/-- A question of bytes, asked of a rune: all beyond ASCII alike. -/
def askR (q : UInt8 → Bool) (r : Nat) : Bool := q (if r < 128 then r.toUInt8 else 128)
/-- A question that all bytes beyond ASCII answer alike. -/
def Flat (q : UInt8 → Bool) : Prop := ∀ c : UInt8, 128 ≤ c.toNat → q c = q 128
theorem flat_of {q : UInt8 → Bool} (h : ∀ n : Fin 256, 128 ≤ n.1 → q n.1.toUInt8 = q 128) : Flat q := by
  intro c hc
  have := h ⟨c.toNat, c.toNat_lt⟩ hc
  rwa [show c.toNat.toUInt8 = c by simp] at this
theorem dec_low (l : List UInt8) (c : UInt8) (r : List UInt8) (hl : l = c :: r) (h : c.toNat < 128) : M1.dec l = (c.toNat, 1) := by
  subst hl
  unfold M1.dec
  rw [if_pos (by simpa using h)]
  rfl
theorem cont_high (l : List UInt8) (k : Nat) (h : M1.cont l k = true) : ∃ h' : k < l.length, 128 ≤ l[k].toNat := by
  unfold M1.cont at h
  rw [Bool.and_eq_true, decide_eq_true_iff] at h
  obtain ⟨h1, h2⟩ := h
  refine ⟨h1, ?_⟩
  rw [List.getD_eq_getElem?_getD, List.getElem?_eq_getElem h1, Option.getD_some] at h2
  have := beq_iff_eq.1 h2
  omega
theorem dec_high (l : List UInt8) (c : UInt8) (r : List UInt8) (hl : l = c :: r) (h : 128 ≤ c.toNat) :
    128 ≤ (M1.dec l).1 ∧ ∀ k, k < (M1.dec l).2 → ∀ hk : k < l.length, 128 ≤ l[k].toNat := by
  have h0 : ∀ hk : 0 < l.length, 128 ≤ l[0].toNat := by subst hl; intro _; exact h
  have one : ∀ k, k < 1 → ∀ hk : k < l.length, 128 ≤ l[k].toNat := by
    intro k hk hl'
    obtain rfl : k = 0 := by omega
    exact h0 hl'
  unfold M1.dec
  rw [if_neg (by subst hl; simpa using h)]
  split
  · rename_i h1
    rw [Bool.and_eq_true] at h1
    split
    · rename_i h2
      refine ⟨h2, ?_⟩
      intro k hk hl'
      match k, hk with
      | 0, _ => exact h0 hl'
      | 1, _ => exact (cont_high l 1 h1.2).2
    · exact ⟨by decide, one⟩
  · split
    · rename_i h1
      rw [Bool.and_eq_true, Bool.and_eq_true] at h1
      split
      · rename_i h2
        rw [Bool.and_eq_true] at h2
        refine ⟨by have := of_decide_eq_true h2.1; show 128 ≤ _; omega, ?_⟩
        intro k hk hl'
        match k, hk with
        | 0, _ => exact h0 hl'
        | 1, _ => exact (cont_high l 1 h1.1.2).2
        | 2, _ => exact (cont_high l 2 h1.2).2
      · exact ⟨by decide, one⟩
    · split
      · rename_i h1
        rw [Bool.and_eq_true, Bool.and_eq_true, Bool.and_eq_true] at h1
        split
        · rename_i h2
          rw [Bool.and_eq_true] at h2
          refine ⟨by have := of_decide_eq_true h2.1; show 128 ≤ _; omega, ?_⟩
          intro k hk hl'
          match k, hk with
          | 0, _ => exact h0 hl'
          | 1, _ => exact (cont_high l 1 h1.1.1.2).2
          | 2, _ => exact (cont_high l 2 h1.1.2).2
          | 3, _ => exact (cont_high l 3 h1.2).2
        · exact ⟨by decide, one⟩
      · exact ⟨by decide, one⟩
theorem ask_low (q : UInt8 → Bool) (c : UInt8) (h : c.toNat < 128) : askR q c.toNat = q c := by
  unfold askR
  rw [if_pos h]
  congr 1
  simp
theorem spanN_all (q : UInt8 → Bool) (n : Nat) : ∀ (l : List UInt8), n ≤ l.length → (∀ k, k < n → ∀ hk : k < l.length, q l[k] = true) → M5.spanN q l = n + M5.spanN q (l.drop n) := by
  induction n with
  | zero => intro l _ _; simp
  | succ n ih =>
    intro l h1 h2
    cases l with
    | nil => simp at h1
    | cons c r =>
      have h0 := h2 0 (by omega) (by simp)
      have e : M5.spanN q (c :: r) = M5.spanN q r + 1 := by
        unfold M5.spanN
        rw [List.takeWhile_cons, if_pos (by simpa using h0)]
        rfl
      rw [e, List.drop_succ_cons, ih r (by simpa using h1) (fun k hk hl => by
        have := h2 (k + 1) (by omega) (by simpa using hl)
        simpa using this)]
      omega
theorem spanN_no (q : UInt8 → Bool) (c : UInt8) (r : List UInt8) (h : q c = false) : M5.spanN q (c :: r) = 0 := by
  unfold M5.spanN
  rw [List.takeWhile_cons, h]
  rfl
/-- What a rune's round tells of the bytes: all of them pass, or the first one does not. -/
theorem rune_step {q : UInt8 → Bool} (hq : Flat q) (l : List UInt8) (hl : l ≠ []) :
    (askR q (M1.dec l).1 = true → M5.spanN q l = (M1.dec l).2 + M5.spanN q (l.drop (M1.dec l).2)) ∧ (askR q (M1.dec l).1 = false → M5.spanN q l = 0) := by
  obtain ⟨c, r, rfl⟩ := List.exists_cons_of_ne_nil hl
  have hle := M1.dec_le (c :: r) hl
  by_cases h : c.toNat < 128
  · have e := dec_low _ c r rfl h
    rw [e]
    rw [ask_low q c h]
    constructor
    · intro hc
      rw [spanN_all q 1 (c :: r) (by simp) (fun k hk _ => by obtain rfl : k = 0 := by omega
                                                             exact hc)]
    · intro hc
      exact spanN_no q c r hc
  · obtain ⟨h1, h2⟩ := dec_high (c :: r) c r rfl (by omega)
    have ha : askR q (M1.dec (c :: r)).1 = q 128 := by
      unfold askR
      rw [if_neg (by omega)]
    rw [ha]
    constructor
    · intro hc
      exact spanN_all q _ _ hle (fun k hk hl' => by rw [hq _ (h2 k hk hl')]; exact hc)
    · intro hc
      exact spanN_no q c r (by rw [hq c (by omega)]; exact hc)

/-! ### What is asked of a rune -/
theorem u8_low (r : Nat) (h : r < 128) : r.toUInt8.toNat = r := by
  rw [M1.toNat_u8 r (by omega)]
/-- A rune against a byte. -/
theorem askR_eq (d : UInt8) (hd : d.toNat < 128) (r : Nat) : askR (· == d) r = ((r : Int) == (d.toNat : Int)) := by
  unfold askR
  by_cases h : r < 128
  · rw [if_pos h]
    show (r.toUInt8 == d) = _
    rw [eqI, u8_low r h]
  · rw [if_neg h]
    have e1 : ((128 : UInt8) == d) = false := by
      rw [eqI]
      have : (128 : UInt8).toNat = 128 := rfl
      rw [this, beq_eq_false_iff_ne]
      omega
    show ((128 : UInt8) == d) = _
    rw [e1]
    symm
    rw [beq_eq_false_iff_ne]
    omega
theorem askR_letter (r : Nat) : askR M5.letterB r = (decide (65 ≤ r ∧ r ≤ 90) || decide (97 ≤ r ∧ r ≤ 122)) := by
  unfold askR
  by_cases h : r < 128
  · rw [if_pos h]
    unfold M5.letterB
    rw [u8_low r h]
  · rw [if_neg h]
    have : M5.letterB 128 = false := by decide
    rw [this]
    symm
    simp
    omega
theorem askR_blank (r : Nat) : askR M5.blankB r = (((r : Int) == 9) || ((r : Int) == 10) || ((r : Int) == 12) || ((r : Int) == 32)) := by
  have h9 := askR_eq 9 (by decide) r
  have h10 := askR_eq 10 (by decide) r
  have h12 := askR_eq 12 (by decide) r
  have h32 := askR_eq 32 (by decide) r
  show (((askR (· == 9) r || askR (· == 10) r) || askR (· == 12) r) || askR (· == 32) r : Bool) = _
  rw [h9, h10, h12, h32]
  rfl

set_option maxHeartbeats 1000000 in
theorem tokLetter (r : Nat) (w : World) : Calls Try.prog 34 #[.int .i32 (r : Int)] w (BoolPost (askR M5.letterB r) w) := by
  rw [askR_letter]
  by_cases h1 : 65 ≤ r
  · by_cases h2 : r ≤ 90
    · have hr : (decide (65 ≤ r ∧ r ≤ 90) || decide (97 ≤ r ∧ r ≤ 122)) = true := by simp [h1, h2]
      rw [hr]
      clear hr
      go_enter Try.func34, Try.ntmps34
      go_wp2
      go_ret
      exact ⟨(show Ending.returned (Value.bool _) = Ending.returned (Value.bool _) from congrArg (fun b => Ending.returned (Value.bool b)) (by first | rfl | (rw [Bool.eq_iff_iff]; simp; omega))), rfl⟩
    · by_cases h3 : 97 ≤ r
      · by_cases h4 : r ≤ 122
        · have hr : (decide (65 ≤ r ∧ r ≤ 90) || decide (97 ≤ r ∧ r ≤ 122)) = true := by simp [h3, h4]
          rw [hr]
          clear hr
          go_enter Try.func34, Try.ntmps34
          go_wp2
          go_ret
          exact ⟨(show Ending.returned (Value.bool _) = Ending.returned (Value.bool _) from congrArg (fun b => Ending.returned (Value.bool b)) (by first | rfl | (rw [Bool.eq_iff_iff]; simp; omega))), rfl⟩
        · have hr : (decide (65 ≤ r ∧ r ≤ 90) || decide (97 ≤ r ∧ r ≤ 122)) = false := by simp [h2, h4]
          rw [hr]
          clear hr
          go_enter Try.func34, Try.ntmps34
          go_wp2
          go_ret
          exact ⟨(show Ending.returned (Value.bool _) = Ending.returned (Value.bool _) from congrArg (fun b => Ending.returned (Value.bool b)) (by first | rfl | (rw [Bool.eq_iff_iff]; simp; omega))), rfl⟩
      · have hr : (decide (65 ≤ r ∧ r ≤ 90) || decide (97 ≤ r ∧ r ≤ 122)) = false := by simp [h2, h3]
        rw [hr]
        clear hr
        go_enter Try.func34, Try.ntmps34
        go_wp2
        go_ret
        exact ⟨(show Ending.returned (Value.bool _) = Ending.returned (Value.bool _) from congrArg (fun b => Ending.returned (Value.bool b)) (by first | rfl | (rw [Bool.eq_iff_iff]; simp; omega))), rfl⟩
  · have hr : (decide (65 ≤ r ∧ r ≤ 90) || decide (97 ≤ r ∧ r ≤ 122)) = false := by simp; omega
    have h3 : ¬ 97 ≤ r := by omega
    rw [hr]
    clear hr
    go_enter Try.func34, Try.ntmps34
    go_wp2
    go_ret
    exact ⟨(show Ending.returned (Value.bool _) = Ending.returned (Value.bool _) from congrArg (fun b => Ending.returned (Value.bool b)) (by first | rfl | (rw [Bool.eq_iff_iff]; simp; omega))), rfl⟩

set_option maxHeartbeats 1000000 in
theorem tokBlank (r : Nat) (w : World) : Calls Try.prog 72 #[.int .i32 (r : Int)] w (BoolPost (askR M5.blankB r) w) := by
  rw [askR_blank]
  generalize (r : Int) = n at *
  cases h9 : (n == 9)
  · cases h10 : (n == 10)
    · cases h12 : (n == 12)
      · go_enter Try.func72, Try.ntmps72
        go_wp2
        go_ret
        exact ⟨rfl, rfl⟩
      · go_enter Try.func72, Try.ntmps72
        go_wp2
        go_ret
        exact ⟨rfl, rfl⟩
    · go_enter Try.func72, Try.ntmps72
      go_wp2
      go_ret
      exact ⟨rfl, rfl⟩
  · go_enter Try.func72, Try.ntmps72
    go_wp2
    go_ret
    exact ⟨rfl, rfl⟩

/-- What is passed over between attributes. -/
def betwB (c : UInt8) : Bool := M5.blankB c || c == 47 || c == 61

set_option maxHeartbeats 1000000 in
theorem tokBetween (r : Nat) (w : World) : Calls Try.prog 62 #[.int .i32 (r : Int)] w (BoolPost (askR betwB r) w) := by
  have hB := Lib.hid (fun w => tokBlank r w)
  have e : askR betwB r = (askR M5.blankB r || ((r : Int) == 47) || ((r : Int) == 61)) := by
    show ((askR M5.blankB r || askR (· == 47) r) || askR (· == 61) r : Bool) = _
    rw [askR_eq 47 (by decide) r, askR_eq 61 (by decide) r]
    rfl
  rw [e]
  clear e
  generalize askR M5.blankB r = b at *
  generalize (r : Int) = n at *
  cases b
  · cases h1 : (n == 47)
    · go_enter Try.func62, Try.ntmps62
      go_wp2_with (go_at_call 72; refine (hB.out _).mono ?_; rintro e1 w1 ⟨rfl, rfl⟩)
      go_ret
      exact ⟨rfl, rfl⟩
    · go_enter Try.func62, Try.ntmps62
      go_wp2_with (go_at_call 72; refine (hB.out _).mono ?_; rintro e1 w1 ⟨rfl, rfl⟩)
      go_ret
      exact ⟨rfl, rfl⟩
  · go_enter Try.func62, Try.ntmps62
    go_wp2_with (go_at_call 72; refine (hB.out _).mono ?_; rintro e1 w1 ⟨rfl, rfl⟩)
    go_ret
    exact ⟨rfl, rfl⟩

set_option maxHeartbeats 1000000 in
theorem tokLeaves (r : Nat) (w : World) : Calls Try.prog 47 #[.int .i32 (r : Int)] w (BoolPost (askR edgeB r) w) := by
  have hB := Lib.hid (fun w => tokBlank r w)
  have e : askR edgeB r = (askR M5.blankB r || ((r : Int) == 47) || ((r : Int) == 62)) := by
    show ((askR M5.blankB r || askR (· == 47) r) || askR (· == 62) r : Bool) = _
    rw [askR_eq 47 (by decide) r, askR_eq 62 (by decide) r]
    rfl
  rw [e]
  clear e
  generalize askR M5.blankB r = b at *
  generalize (r : Int) = n at *
  cases b
  · cases h1 : (n == 47)
    · go_enter Try.func47, Try.ntmps47
      go_wp2_with (go_at_call 72; refine (hB.out _).mono ?_; rintro e1 w1 ⟨rfl, rfl⟩)
      go_ret
      exact ⟨rfl, rfl⟩
    · go_enter Try.func47, Try.ntmps47
      go_wp2_with (go_at_call 72; refine (hB.out _).mono ?_; rintro e1 w1 ⟨rfl, rfl⟩)
      go_ret
      exact ⟨rfl, rfl⟩
  · go_enter Try.func47, Try.ntmps47
    go_wp2_with (go_at_call 72; refine (hB.out _).mono ?_; rintro e1 w1 ⟨rfl, rfl⟩)
    go_ret
    exact ⟨rfl, rfl⟩
end Go.Proofs.Ytlknmnldblodbaa

/- Package token: closures, what they take of a text. -/
namespace Go.Proofs.Ytlknmnldblodbaa
open Go.RowKit

/-- The function F, with what it captured, answers a rune by q, in any world that grew out of w0. -/
structure Asks (F : Nat) (caps : Array Value) (q : UInt8 → Bool) (w0 : World) : Prop where
  enter : ∀ (args : Array Value) (w : World), (callFunc F args).run Try.prog w = .ok (.enter F args) w
  flat : Flat q
  call : ∀ (r : Nat) (w : World), r < 1114112 → Below w0.heap.size w0 w → Calls Try.prog F (#[.int .i32 (r : Int)] ++ caps) w (BoolPost (askR q r) w)

def TakePost (q : UInt8 → Bool) (l : List UInt8) (w : World) (e : Ending) (w' : World) : Prop :=
  e = .returned (.tuple #[.string (M5.bs (l.takeWhile q)), .string (M5.bs (l.dropWhile q))]) ∧ Below w.heap.size w w'
theorem take_part (s : ByteArray) (q : UInt8 → Bool) (k : Nat) (h : k = M5.spanN q s.data.toList) : s.extract 0 k = M5.bs (s.data.toList.takeWhile q) := by
  rw [bs_cut, List.drop_zero, Nat.sub_zero, h, M5.span_take]
theorem drop_part (s : ByteArray) (q : UInt8 → Bool) (k : Nat) (h : k = M5.spanN q s.data.toList) : s.extract k s.size = M5.bs (s.data.toList.dropWhile q) := by
  rw [bs_cut, List.take_of_length_le (by rw [List.length_drop]; exact Nat.le_refl _), h, M5.span_drop]

set_option maxHeartbeats 2000000 in
set_option maxRecDepth 100000 in
theorem tokTake {F : Nat} {caps : Array Value} {q : UInt8 → Bool} (s : ByteArray) (w : World) (hA : Asks F caps q w) (hs : s.size ≤ 1073741824) :
    Calls Try.prog 61 #[.string s, .func (.func F) #[] caps] w (TakePost q s.data.toList w) := by
  have hE := hA.enter
  obtain ⟨N, hN⟩ : ∃ N, Hid (N = M5.spanN q s.data.toList) := ⟨_, rfl⟩
  have hNs : N ≤ s.size := by rw [hN.out]; exact M5.spanN_le _ _
  obtain ⟨wo, rfl⟩ : ∃ wo : World, wo = w := ⟨_, rfl⟩
  go_enter Try.func61, Try.ntmps61
  go_wp2_with fail
  go_loopw [] (fun wr => ∃ pos : Nat, pos ≤ s.size ∧ wr.heap[wo.heap.size]? = some (.stringIter s pos) ∧ Below wo.heap.size wo wr ∧ Hid (N = pos + M5.spanN q (s.data.toList.drop pos))) (fun wr => s.size - wr.iterPos wo.heap.size)
  case atStart => exact ⟨0, by omega, World.iter_heap wo s 0, (Below.refl _ wo).alloc (Nat.le_refl _) _, by show _ = _; rw [hN.out]; simp⟩
  case round =>
    obtain ⟨pos, hpl, hit, hbw, hv⟩ := hrel
    have hsz : wo.heap.size < wr.heap.size := (Array.getElem?_eq_some_iff.1 hit).1
    by_cases hp : pos < s.size
    · have hp' : pos < s.data.toList.length := hp
      have hne := drop_ne hp'
      have hnx := next_dec (P := Try.prog) wr wo.heap.size s pos hit hp
      have hst0 := rune_step hA.flat _ hne
      have hw1 := M1.dec_pos _ hne
      have hw2 := M1.dec_le _ hne
      have hlt := M1.dec_lt (s.data.toList.drop pos)
      rw [List.drop_drop] at hst0
      rw [List.length_drop, show s.data.toList.length = s.size from rfl] at hw2
      have hbw1 := Lib.below_iterAt hbw (Nat.le_refl _) s (pos + (M1.dec (s.data.toList.drop pos)).2)
      have hit1 := Lib.iterAt_heap wr wo.heap.size s pos (pos + (M1.dec (s.data.toList.drop pos)).2) hit
      have hcall := Lib.hid (hA.call (M1.dec (s.data.toList.drop pos)).1 _ hlt hbw1)
      generalize (M1.dec (s.data.toList.drop pos)).1 = r at *
      generalize (M1.dec (s.data.toList.drop pos)).2 = wd at *
      generalize wr.iterAt wo.heap.size s (pos + wd) = w1 at *
      have hst := Lib.hid hst0
      clear hst0 hne hbw
      cases hb : askR q r
      · have hk : pos = M5.spanN q s.data.toList := by rw [← hN.out, hv.out, hst.out.2 hb]; rfl
        rw [hb] at hcall
        replace hk := Lib.hid hk
        go_wp2_with fail
        refine hcall.out.mono ?_
        rintro e1 w2 ⟨rfl, rfl⟩
        go_wp2_with fail
        go_quiet (fail)
        go_wp2_with fail
        go_ret2
        exact ⟨by rw [← take_part s q pos hk.out, ← drop_part s q pos hk.out]; rfl, below_drewN hbw1 _⟩
      · have hv2 : Hid (N = pos + wd + M5.spanN q (s.data.toList.drop (pos + wd))) := by show _ = _; rw [hv.out, hst.out.1 hb]; omega
        rw [hb] at hcall
        go_wp2_with fail
        refine hcall.out.mono ?_
        rintro e1 w2 ⟨rfl, rfl⟩
        go_wp2_with fail
        go_roundw
        case rel => exact ⟨pos + wd, by omega, hit1, hbw1, hv2⟩
        case measure => rw [iterPos_of hit1, iterPos_of hit]; omega
    · have hnx := fun ty => Lib.run_next_end_at (P := Try.prog) wr wo.heap.size s pos ty hit hp
      go_wp2_with fail
      go_ret2
      have hNe : N = s.size := by rw [hv.out, List.drop_of_length_le (by show s.size ≤ pos; omega)]; show pos + 0 = _; omega
      have e1 : M5.bs (s.data.toList.takeWhile q) = s := by rw [← take_part s q N hN.out, hNe, ByteArray.extract_zero_size]
      have e2 : M5.bs (s.data.toList.dropWhile q) = ⟨#[]⟩ := by rw [← drop_part s q N hN.out, hNe]; apply ByteArray.ext; apply Array.ext'; rw [Lib.extract_data]; simp
      exact ⟨by rw [e1, e2]; rfl, hbw⟩
end Go.Proofs.Ytlknmnldblodbaa

/- Tokens by definitions: an attribute and its value as the program tells them; what stands behind. -/
namespace Go.Proofs.Ytlknmnldblodbaa.M5

theorem findL_span (q : UInt8) (t : List UInt8) : findL [q] t = spanN (· != q) t := by
  induction t with
  | nil => rfl
  | cons c r ih =>
    rw [findL]
    unfold spanN at *
    rw [List.takeWhile_cons]
    by_cases h : q = c
    · subst h
      simp [List.isPrefixOf]
    · have h1 : [q].isPrefixOf (c :: r) = false := by
        show (q == c && _) = false
        rw [beq_eq_false_iff_ne.2 h]
        rfl
      have h2 : (c != q) = true := bne_iff_ne.2 (fun e => h e.symm)
      rw [h1, h2, if_pos rfl, ih]
      rfl
/-- What stands up to a sign, and what stands behind that. -/
def quoted (q : UInt8) (t : List UInt8) : List UInt8 × List UInt8 := (t.takeWhile (· != q), (t.dropWhile (· != q)).drop 1)
def bareB (c : UInt8) : Bool := !blankB c && c != 62
def valC : List UInt8 → List UInt8 × List UInt8
  | [] => ([], [])
  | q :: t => if q = 34 ∨ q = 39 then quoted q t else ((q :: t).takeWhile bareB, (q :: t).dropWhile bareB)
def keyB (c : UInt8) : Bool := !stopB c
def attC (l : List UInt8) : Att × List UInt8 :=
  match (l.dropWhile keyB).dropWhile blankB with
  | 61 :: r => (⟨bs (M1.fold (l.takeWhile keyB)), bs (M2.decode (valC (r.dropWhile blankB)).1)⟩, (valC (r.dropWhile blankB)).2)
  | r => (⟨bs (M1.fold (l.takeWhile keyB)), ⟨#[]⟩⟩, r)
theorem val_eq (nm : ByteArray) (r : List UInt8) :
    ((valueAt nm r).2.2 = true → (valueAt nm r).1 = ⟨nm, bs (M2.decode (valC (r.dropWhile blankB)).1)⟩ ∧ (valueAt nm r).2.1 = (valC (r.dropWhile blankB)).2) ∧
    ((valueAt nm r).2.2 = false → (valC (r.dropWhile blankB)).2 = []) := by
  unfold valueAt
  cases r.dropWhile blankB with
  | nil => exact ⟨fun _ => ⟨rfl, rfl⟩, (fun h => nomatch h)⟩
  | cons q t =>
    dsimp only
    rw [valC]
    by_cases hq : q = 34 ∨ q = 39
    · rw [if_pos hq, if_pos hq]
      have hd : t.drop (findL [q] t) = t.dropWhile (· != q) := by rw [findL_span, span_drop]
      by_cases hf : findL [q] t < t.length
      · rw [if_pos hf]
        refine ⟨fun _ => ⟨?_, ?_⟩, (fun h => nomatch h)⟩
        · show (⟨nm, bs (M2.decode (t.take (findL [q] t)))⟩ : Att) = _
          rw [findL_span, span_take]
          rfl
        · show t.drop (findL [q] t + 1) = (t.dropWhile (· != q)).drop 1
          rw [← hd, List.drop_drop]
      · rw [if_neg hf]
        refine ⟨(fun h => nomatch h), fun _ => ?_⟩
        show (t.dropWhile (· != q)).drop 1 = []
        rw [← hd, List.drop_of_length_le (by omega : t.length ≤ findL [q] t)]
        rfl
    · rw [if_neg hq, if_neg hq]
      exact ⟨fun _ => ⟨rfl, rfl⟩, (fun h => nomatch h)⟩
theorem attrAt_61 (l r : List UInt8) (h : (l.dropWhile keyB).dropWhile blankB = 61 :: r) : attrAt l = valueAt (bs (M1.fold (l.takeWhile keyB))) r := by
  have e : (fun c => !stopB c) = keyB := rfl
  unfold attrAt
  rw [e, h]
  rfl
theorem attC_61 (l r : List UInt8) (h : (l.dropWhile keyB).dropWhile blankB = 61 :: r) : attC l = (⟨bs (M1.fold (l.takeWhile keyB)), bs (M2.decode (valC (r.dropWhile blankB)).1)⟩, (valC (r.dropWhile blankB)).2) := by
  unfold attC
  rw [h]
  rfl
theorem attrAt_ne (l : List UInt8) (h : ∀ r, (l.dropWhile keyB).dropWhile blankB ≠ 61 :: r) : attrAt l = (⟨bs (M1.fold (l.takeWhile keyB)), ⟨#[]⟩⟩, (l.dropWhile keyB).dropWhile blankB, true) := by
  have e : (fun c => !stopB c) = keyB := rfl
  unfold attrAt
  rw [e]
  split
  · rename_i h'
    exact absurd h' (h _)
  · rfl
theorem attC_ne (l : List UInt8) (h : ∀ r, (l.dropWhile keyB).dropWhile blankB ≠ 61 :: r) : attC l = (⟨bs (M1.fold (l.takeWhile keyB)), ⟨#[]⟩⟩, (l.dropWhile keyB).dropWhile blankB) := by
  unfold attC
  split
  · rename_i h'
    exact absurd h' (h _)
  · rfl
theorem att_eq (l : List UInt8) :
    ((attrAt l).2.2 = true → (attrAt l).1 = (attC l).1 ∧ (attrAt l).2.1 = (attC l).2) ∧ ((attrAt l).2.2 = false → (attC l).2 = []) := by
  by_cases h : ∃ r, (l.dropWhile keyB).dropWhile blankB = 61 :: r
  · obtain ⟨r, h⟩ := h
    rw [attrAt_61 l r h, attC_61 l r h]
    exact val_eq _ r
  · have h' : ∀ r, (l.dropWhile keyB).dropWhile blankB ≠ 61 :: r := fun r e => h ⟨r, e⟩
    rw [attrAt_ne l h', attC_ne l h']
    exact ⟨fun _ => ⟨rfl, rfl⟩, (fun h => nomatch h)⟩
/-- The attributes as the program tells them: blanks and the like first, then a '>', or an attribute, by what is left. -/
def overB (c : UInt8) : Bool := blankB c || c == 47 || c == 61
theorem atts_over (l : List UInt8) (acc : List Att) : attsR l acc = attsR (l.dropWhile overB) acc := by
  induction l with
  | nil => rfl
  | cons c r ih =>
    rw [List.dropWhile_cons]
    cases h : overB c
    · rfl
    · rw [if_pos rfl, attsR_cons]
      have h62 : c ≠ 62 := by
        intro e
        subst e
        exact absurd h (by decide)
      have hs : stopB c = true := by
        unfold overB at h
        unfold stopB
        revert h
        cases blankB c <;> cases (c == 47) <;> cases (c == 61) <;> cases (c == 62) <;> simp
      rw [if_neg h62, if_pos hs, ih]
theorem atts_one (c : UInt8) (r : List UInt8) (acc : List Att) (ho : overB c = false) (h62 : c ≠ 62) : attsR (c :: r) acc = attsR (attC (c :: r)).2 (addT acc (attC (c :: r)).1) := by
  have hs : stopB c = false := by
    unfold overB at ho
    unfold stopB
    have : (c == 62) = false := beq_eq_false_iff_ne.2 h62
    rw [this]
    revert ho
    cases blankB c <;> cases (c == 47) <;> cases (c == 61) <;> simp
  rw [attsR_cons, if_neg h62, hs, if_neg Bool.false_ne_true]
  obtain ⟨h1, h2⟩ := att_eq (c :: r)
  cases ho : (attrAt (c :: r)).2.2
  · rw [if_neg Bool.false_ne_true, h2 ho, attsR_nil]
  · rw [if_pos rfl, (h1 ho).1, (h1 ho).2]
theorem over_head (l : List UInt8) (c : UInt8) (r : List UInt8) (h : l.dropWhile overB = c :: r) : overB c = false := by
  induction l with
  | nil => cases h
  | cons d t ih =>
    rw [List.dropWhile_cons] at h
    cases hd : overB d
    · rw [hd, if_neg Bool.false_ne_true] at h
      cases h
      exact hd
    · rw [hd, if_pos rfl] at h
      exact ih h
theorem valC_suf (l : List UInt8) : Suf (valC l).2 l := by
  cases l with
  | nil => exact Suf.refl _
  | cons q t =>
    rw [valC]
    split
    · exact ((Suf.drop _ 1).trans (Suf.dropWhile _ t)).trans (Suf.cons q t)
    · exact Suf.dropWhile _ _
theorem valC_fst_le (l : List UInt8) : (valC l).1.length ≤ l.length := by
  cases l with
  | nil => exact Nat.le_refl _
  | cons q t =>
    rw [valC]
    split
    · have := (List.takeWhile_prefix (l := t) (· != q)).length_le
      show (t.takeWhile (· != q)).length ≤ t.length + 1
      omega
    · exact (List.takeWhile_prefix _).length_le
theorem attC_name_le (l : List UInt8) : (attC l).1.name.size ≤ l.length := by
  have e : (attC l).1.name = bs (M1.fold (l.takeWhile keyB)) := by
    unfold attC
    split <;> rfl
  rw [e]
  show (M1.fold (l.takeWhile keyB)).toArray.size ≤ _
  rw [List.size_toArray, M1.fold, List.length_map]
  exact (List.takeWhile_prefix _).length_le
theorem attC_suf (l : List UInt8) : Suf (attC l).2 l := by
  have h0 := (Suf.dropWhile blankB (l.dropWhile keyB)).trans (Suf.dropWhile keyB l)
  unfold attC
  generalize (l.dropWhile keyB).dropWhile blankB = r at *
  split
  · exact (((valC_suf _).trans (Suf.dropWhile blankB _)).trans (Suf.cons _ _)).trans h0
  · exact h0
theorem attC_lt (c : UInt8) (r : List UInt8) (ho : overB c = false) (h62 : c ≠ 62) : (attC (c :: r)).2.length < (c :: r).length := by
  have hk : keyB c = true := by
    unfold keyB stopB
    unfold overB at ho
    have : (c == 62) = false := beq_eq_false_iff_ne.2 h62
    rw [this]
    revert ho
    cases blankB c <;> cases (c == 47) <;> cases (c == 61) <;> simp
  have h1 : (c :: r).dropWhile keyB = r.dropWhile keyB := by rw [List.dropWhile_cons, hk]; rfl
  have h0 := (Suf.dropWhile blankB (r.dropWhile keyB)).trans (Suf.dropWhile keyB r)
  unfold attC
  rw [h1]
  generalize (r.dropWhile keyB).dropWhile blankB = t at *
  have h2 := h0.le
  split
  · rename_i x
    have := ((valC_suf _).trans (Suf.dropWhile blankB x)).le
    simp only [List.length_cons] at *
    omega
  · show t.length < _
    simp only [List.length_cons]
    omega
end Go.Proofs.Ytlknmnldblodbaa.M5

/- Package token: the questions of its closures, a name, a value, an attribute. -/
namespace Go.Proofs.Ytlknmnldblodbaa
open Go.RowKit

theorem bp_true {b : Bool} {w : World} (h : b = true) : BoolPost b w (.returned (.bool true)) w := by rw [h]; exact ⟨rfl, rfl⟩
theorem bp_of {b c : Bool} {w : World} (h : b = c) : BoolPost b w (.returned (.bool c)) w := by rw [h]; exact ⟨rfl, rfl⟩

theorem askR_name (r : Nat) : askR M5.nameB r = (askR M5.letterB r || decide (48 ≤ r ∧ r ≤ 57) || ((r : Int) == 45)) := by
  have e : ((askR M5.letterB r || askR (fun c => decide (48 ≤ c.toNat ∧ c.toNat ≤ 57)) r) || askR (· == 45) r : Bool) = askR M5.nameB r := rfl
  rw [← e, askR_eq 45 (by decide) r]
  have e2 : askR (fun c => decide (48 ≤ c.toNat ∧ c.toNat ≤ 57)) r = decide (48 ≤ r ∧ r ≤ 57) := by
    unfold askR
    by_cases h : r < 128
    · rw [if_pos h]
      show decide (48 ≤ r.toUInt8.toNat ∧ r.toUInt8.toNat ≤ 57) = _
      rw [u8_low r h]
    · rw [if_neg h]
      rw [decide_eq_decide]
      constructor
      · intro h'; exact absurd h'.2 (by decide)
      · intro h'; omega
  rw [e2]
  rfl

set_option maxHeartbeats 1000000 in
theorem tokNamed1 (r : Nat) (w : World) : Calls Try.prog 90 #[.int .i32 (r : Int)] w (BoolPost (askR M5.nameB r) w) := by
  have hL := Lib.hid (fun w => tokLetter r w)
  rw [askR_name]
  generalize askR M5.letterB r = lb at *
  cases lb
  · by_cases h1 : 48 ≤ r
    · by_cases h2 : r ≤ 57
      · have hr : (false || decide (48 ≤ r ∧ r ≤ 57) || ((r : Int) == 45)) = true := by simp [h1, h2]
        rw [hr]
        clear hr
        go_enter Try.func90, Try.ntmps90
        go_wp2_with (go_at_call 34; refine (hL.out _).mono ?_; rintro e1 w1 ⟨rfl, rfl⟩)
        go_ret
        exact bp_of (by first | rfl | (rw [Bool.eq_iff_iff]; simp; omega))
      · have h45 : ((r : Int) == 45) = false := by simp; omega
        have hr : (false || decide (48 ≤ r ∧ r ≤ 57) || ((r : Int) == 45)) = false := by rw [h45]; simp [h2]
        rw [hr]
        clear hr
        go_enter Try.func90, Try.ntmps90
        go_wp2_with (go_at_call 34; refine (hL.out _).mono ?_; rintro e1 w1 ⟨rfl, rfl⟩)
        go_ret
        exact bp_of (by first | rfl | (rw [Bool.eq_iff_iff]; simp; omega))
    · cases h45 : ((r : Int) == 45)
      · have hr : (false || decide (48 ≤ r ∧ r ≤ 57) || false) = false := by simp [h1]
        rw [hr]
        clear hr
        go_enter Try.func90, Try.ntmps90
        go_wp2_with (go_at_call 34; refine (hL.out _).mono ?_; rintro e1 w1 ⟨rfl, rfl⟩)
        go_ret
        exact bp_of (by first | rfl | (rw [Bool.eq_iff_iff]; simp; omega))
      · have hr : (false || decide (48 ≤ r ∧ r ≤ 57) || true) = true := by simp
        rw [hr]
        clear hr
        go_enter Try.func90, Try.ntmps90
        go_wp2_with (go_at_call 34; refine (hL.out _).mono ?_; rintro e1 w1 ⟨rfl, rfl⟩)
        go_ret
        exact bp_of (by first | rfl | (rw [Bool.eq_iff_iff]; simp; omega))
  · have hr : (true || decide (48 ≤ r ∧ r ≤ 57) || ((r : Int) == 45)) = true := by simp
    rw [hr]
    clear hr
    go_enter Try.func90, Try.ntmps90
    go_wp2_with (go_at_call 34; refine (hL.out _).mono ?_; rintro e1 w1 ⟨rfl, rfl⟩)
    go_ret
    exact bp_of (by first | rfl | (rw [Bool.eq_iff_iff]; simp; omega))

theorem key_eq (c : UInt8) : M5.keyB c = (!betwB c && !(c == 62)) := by
  unfold M5.keyB M5.stopB betwB
  cases M5.blankB c <;> cases (c == 47) <;> cases (c == 62) <;> cases (c == 61) <;> rfl
theorem askR_key (r : Nat) : askR M5.keyB r = (!askR betwB r && !((r : Int) == 62)) := by
  have h := askR_eq 62 (by decide) r
  unfold askR at *
  rw [key_eq]
  rw [show ((if r < 128 then r.toUInt8 else 128) == (62 : UInt8)) = ((r : Int) == 62) from h]
theorem askR_bare (r : Nat) : askR M5.bareB r = (!askR M5.blankB r && !((r : Int) == 62)) := by
  have h := askR_eq 62 (by decide) r
  unfold askR at *
  show (!M5.blankB _ && !(_ == _)) = _
  rw [show ((if r < 128 then r.toUInt8 else 128) == (62 : UInt8)) = ((r : Int) == 62) from h]
theorem askR_not (d : UInt8) (hd : d.toNat < 128) (r : Nat) : askR (· != d) r = !((r : Int) == (d.toNat : Int)) := by
  rw [← askR_eq d hd r]
  rfl

set_option maxHeartbeats 1000000 in
theorem tokAttr1 (r : Nat) (w : World) : Calls Try.prog 92 #[.int .i32 (r : Int)] w (BoolPost (askR M5.keyB r) w) := by
  have hL := Lib.hid (fun w => tokBetween r w)
  rw [askR_key]
  generalize askR betwB r = lb at *
  generalize (r : Int) = n at *
  cases lb
  · cases h62 : (n == 62)
    · have hn : (n != 62) = true := by rw [bne, h62]; rfl
      go_enter Try.func92, Try.ntmps92
      go_wp2_with (go_at_call 62; refine (hL.out _).mono ?_; rintro e1 w1 ⟨rfl, rfl⟩)
      go_ret
      exact bp_of rfl
    · have hn : (n != 62) = false := by rw [bne, h62]; rfl
      go_enter Try.func92, Try.ntmps92
      go_wp2_with (go_at_call 62; refine (hL.out _).mono ?_; rintro e1 w1 ⟨rfl, rfl⟩)
      go_ret
      exact bp_of rfl
  · go_enter Try.func92, Try.ntmps92
    go_wp2_with (go_at_call 62; refine (hL.out _).mono ?_; rintro e1 w1 ⟨rfl, rfl⟩)
    go_ret
    exact bp_of rfl

set_option maxHeartbeats 1000000 in
theorem tokValue1 (r : Nat) (w : World) : Calls Try.prog 105 #[.int .i32 (r : Int)] w (BoolPost (askR M5.bareB r) w) := by
  have hL := Lib.hid (fun w => tokBlank r w)
  rw [askR_bare]
  generalize askR M5.blankB r = lb at *
  generalize (r : Int) = n at *
  cases lb
  · cases h62 : (n == 62)
    · have hn : (n != 62) = true := by rw [bne, h62]; rfl
      go_enter Try.func105, Try.ntmps105
      go_wp2_with (go_at_call 72; refine (hL.out _).mono ?_; rintro e1 w1 ⟨rfl, rfl⟩)
      go_ret
      exact bp_of rfl
    · have hn : (n != 62) = false := by rw [bne, h62]; rfl
      go_enter Try.func105, Try.ntmps105
      go_wp2_with (go_at_call 72; refine (hL.out _).mono ?_; rintro e1 w1 ⟨rfl, rfl⟩)
      go_ret
      exact bp_of rfl
  · go_enter Try.func105, Try.ntmps105
    go_wp2_with (go_at_call 72; refine (hL.out _).mono ?_; rintro e1 w1 ⟨rfl, rfl⟩)
    go_ret
    exact bp_of rfl

set_option maxHeartbeats 1000000 in
theorem tokValue2 (r d g : Nat) (w : World) (hc : w.cell? ⟨g, 0, none⟩ = some (.int .i32 (d : Int))) : Calls Try.prog 106 #[.int .i32 (r : Int), .pointer (some ⟨g, 0, none⟩)] w (BoolPost (!((r : Int) == (d : Int))) w) := by
  generalize (r : Int) = n at *
  generalize (d : Int) = m at *
  cases h62 : (n == m)
  · have hn : (n != m) = true := by rw [bne, h62]; rfl
    go_enter Try.func106, Try.ntmps106
    go_wp2_with fail
    go_ret
    exact bp_of rfl
  · have hn : (n != m) = false := by rw [bne, h62]; rfl
    go_enter Try.func106, Try.ntmps106
    go_wp2_with fail
    go_ret
    exact bp_of rfl

set_option maxHeartbeats 1000000 in
theorem tokEnd1 (r : Nat) (w : World) : Calls Try.prog 64 #[.int .i32 (r : Int)] w (BoolPost (!((r : Int) == 62)) w) := by
  generalize (r : Int) = n at *
  cases h62 : (n == 62)
  · have hn : (n != 62) = true := by rw [bne, h62]; rfl
    go_enter Try.func64, Try.ntmps64
    go_wp2_with fail
    go_ret
    exact bp_of rfl
  · have hn : (n != 62) = false := by rw [bne, h62]; rfl
    go_enter Try.func64, Try.ntmps64
    go_wp2_with fail
    go_ret
    exact bp_of rfl

/-! ### As what is handed in -/
theorem flat_blank : Flat M5.blankB := flat_of (by decide +kernel)
theorem flat_betw : Flat betwB := flat_of (by decide +kernel)
theorem flat_name : Flat M5.nameB := flat_of (by decide +kernel)
theorem flat_key : Flat M5.keyB := flat_of (by decide +kernel)
theorem flat_bare : Flat M5.bareB := flat_of (by decide +kernel)
theorem flat_ne (d : UInt8) (hd : d.toNat < 128) : Flat (· != d) := by
  intro c hc
  have h1 : c ≠ d := fun e => by subst e; omega
  have h2 : (128 : UInt8) ≠ d := fun e => by subst e; exact absurd hd (by decide)
  show (c != d) = ((128 : UInt8) != d)
  rw [bne_iff_ne.2 h1, bne_iff_ne.2 h2]
theorem asksBlank (w : World) : Asks 72 #[] M5.blankB w := ⟨enters_of Try.func72 (by kernel_rfl) rfl, flat_blank, fun r w _ _ => tokBlank r w⟩
theorem asksBetween (w : World) : Asks 62 #[] betwB w := ⟨enters_of Try.func62 (by kernel_rfl) rfl, flat_betw, fun r w _ _ => tokBetween r w⟩
theorem asksNamed (w : World) : Asks 90 #[] M5.nameB w := ⟨enters_of Try.func90 (by kernel_rfl) rfl, flat_name, fun r w _ _ => tokNamed1 r w⟩
theorem asksKey (w : World) : Asks 92 #[] M5.keyB w := ⟨enters_of Try.func92 (by kernel_rfl) rfl, flat_key, fun r w _ _ => tokAttr1 r w⟩
theorem asksBare (w : World) : Asks 105 #[] M5.bareB w := ⟨enters_of Try.func105 (by kernel_rfl) rfl, flat_bare, fun r w _ _ => tokValue1 r w⟩
theorem asksEnd (w : World) : Asks 64 #[] (· != 62) w := ⟨enters_of Try.func64 (by kernel_rfl) rfl, flat_ne 62 (by decide), fun r w _ _ => by rw [askR_not 62 (by decide) r]; exact tokEnd1 r w⟩
theorem asksMark (w : World) (d : UInt8) (hd : d.toNat < 128) (g : Nat) (hc : w.cell? ⟨g, 0, none⟩ = some (.int .i32 (d.toNat : Int))) : Asks 106 #[.pointer (some ⟨g, 0, none⟩)] (· != d) w :=
  ⟨enters_of Try.func106 (by kernel_rfl) rfl, flat_ne d hd, fun r w1 _ hb => by
    rw [askR_not d hd r]
    exact tokValue2 r d.toNat g w1 (by rw [hb.cell (World.block_lt_of_cell? w _ hc)]; exact hc)⟩
end Go.Proofs.Ytlknmnldblodbaa

/- Package token: whether a tag begins, a name, a value, an attribute. -/
namespace Go.Proofs.Ytlknmnldblodbaa
open Go.RowKit

theorem idx_three (c : UInt8) : decide (0 ≤ Lib.indexByte [33, 63, 47] c) = ((c == 33) || (c == 63) || (c == 47)) := by
  unfold Lib.indexByte
  unfold Lib.indexByte
  unfold Lib.indexByte
  unfold Lib.indexByte
  rw [Bool.beq_comm (a := (33 : UInt8)), Bool.beq_comm (a := (63 : UInt8)), Bool.beq_comm (a := (47 : UInt8))]
  cases (c == 33) <;> cases (c == 63) <;> cases (c == 47) <;> decide

theorem wrap32_byte (c : UInt8) : wrap32 (c.toNat : Int) = (c.toNat : Int) := by
  have := c.toNat_lt
  unfold wrap32
  omega

set_option maxHeartbeats 2000000 in
set_option maxRecDepth 100000 in
theorem tokStarts (s : ByteArray) (w : World) (hs : s.size ≤ 1073741824) : Calls Try.prog 17 #[.string s] w (BoolPost (M5.startsB s.data.toList) w) := by
  by_cases h2 : s.size < 2
  · have e : M5.startsB s.data.toList = false := by
      have : s.data.toList.length < 2 := h2
      generalize s.data.toList = l at *
      match l with
      | [] => rfl
      | [_] => rfl
      | _ :: _ :: _ => simp at this; omega
    rw [e]
    clear e
    go_enter Try.func17, Try.ntmps17
    go_wp2
    go_ret
    exact ⟨rfl, rfl⟩
  · have e : M5.startsB s.data.toList = (((s[0]'(by omega)) == 60) && (M5.letterB (s[1]'(by omega)) || (s[1]'(by omega)) == 33 || (s[1]'(by omega)) == 63 || (s[1]'(by omega)) == 47)) := by
      have : s.data.toList = s[0] :: s[1] :: s.data.toList.drop 2 := by
        rw [← drop_cons s 1 (by omega)]
        have := drop_cons s 0 (by omega)
        simpa using this
      rw [this]
      rfl
    have i0 : 0 < s.size := by omega
    have i1 : 1 < s.size := by omega
    have hL : Hid (∀ w, Calls Try.prog 34 #[.int .i32 (wrap32 (s[1].toNat : Int))] w (BoolPost (askR M5.letterB s[1].toNat) w)) := Lib.hid (fun w => by rw [wrap32_byte]; exact tokLetter s[1].toNat w)
    have hI := Lib.hid (fun w => sIndexByte ⟨#[33, 63, 47]⟩ (s[1].toNat : Int) w)
    have hix : Hid (decide ((0 : Int) ≤ Lib.indexByte [33, 63, 47] ((s[1].toNat : Int)).toNat.toUInt8) = ((s[1] == 33) || (s[1] == 63) || (s[1] == 47))) := by
      show _ = _
      rw [idx_three]
      simp
    have hal : Hid (M5.letterB s[1] = askR M5.letterB s[1].toNat) := by
      show _ = _
      by_cases hc : s[1].toNat < 128
      · rw [ask_low _ _ hc]
      · unfold askR
        rw [if_neg hc]
        unfold M5.letterB
        rw [Bool.eq_iff_iff]
        simp
        omega
    rw [hal.out] at e
    rw [eqI (s[0]) 60] at e
    change M5.startsB s.data.toList = (((s[0].toNat : Int) == 60) && (askR M5.letterB s[1].toNat || (s[1] == 33) || (s[1] == 63) || (s[1] == 47))) at e
    rw [e]
    clear e hal
    cases h60 : ((s[0].toNat : Int) == 60)
    · have hn : ((s[0].toNat : Int) != 60) = true := by rw [bne, h60]; rfl
      go_enter Try.func17, Try.ntmps17
      go_wp2
      go_ret
      exact ⟨rfl, rfl⟩
    · have hn : ((s[0].toNat : Int) != 60) = false := by rw [bne, h60]; rfl
      cases hl : askR M5.letterB s[1].toNat
      · go_enter Try.func17, Try.ntmps17
        go_wp2_with fail
        refine (hL.out _).mono ?_
        rintro e1 w1 ⟨rfl, rfl⟩
        rw [hl]
        go_wp2_with fail
        refine (hI.out _).mono ?_
        rintro e1 w1 ⟨rfl, rfl⟩
        go_wp2_with fail
        go_ret
        exact bp_of (by rw [Bool.true_and, Bool.false_or, ← hix.out, Int.toNat_natCast]; simp)
      · go_enter Try.func17, Try.ntmps17
        go_wp2_with fail
        refine (hL.out _).mono ?_
        rintro e1 w1 ⟨rfl, rfl⟩
        rw [hl]
        go_wp2_with fail
        go_ret
        exact ⟨rfl, rfl⟩

def NamedPost (l : List UInt8) (w : World) (e : Ending) (w' : World) : Prop :=
  e = .returned (.tuple #[.string (M5.bs (M1.fold (l.takeWhile M5.nameB))), .string (M5.bs (l.dropWhile M5.nameB))]) ∧ Below w.heap.size w w'
theorem bs_size (l : List UInt8) : (M5.bs l).size = l.length := by
  show (M5.bs l).data.size = _
  rw [← Array.length_toList, M5.bs_data]
theorem tw_le (q : UInt8 → Bool) (s : ByteArray) : (M5.bs (s.data.toList.takeWhile q)).size ≤ s.size := by
  rw [bs_size]
  exact (List.takeWhile_prefix q).length_le
theorem dw_le (q : UInt8 → Bool) (s : ByteArray) : (M5.bs (s.data.toList.dropWhile q)).size ≤ s.size := by
  rw [bs_size]
  exact (List.dropWhile_suffix q).length_le
set_option maxHeartbeats 2000000 in
set_option maxRecDepth 100000 in
theorem tokNamed (s : ByteArray) (w : World) (hs : s.size ≤ 1073741824) : Calls Try.prog 60 #[.string s] w (NamedPost s.data.toList w) := by
  have hT := Lib.hid (tokTake s w (asksNamed w) hs)
  have hl := tw_le M5.nameB s
  have hF := Lib.hid (fun w => utfFold (M5.bs (s.data.toList.takeWhile M5.nameB)) w (by omega))
  rw [M5.bs_data] at hF
  go_enter Try.func60, Try.ntmps60
  go_wp2_with fail
  refine hT.out.mono ?_
  rintro e1 w1 ⟨rfl, hb1⟩
  go_wp2_with fail
  refine (hF.out _).mono ?_
  rintro e1 w2 ⟨rfl, hb2⟩
  go_wp2_with fail
  go_ret2
  exact ⟨rfl, bt hb1 hb2⟩

def PairPost (p : List UInt8 × List UInt8) (w : World) (e : Ending) (w' : World) : Prop :=
  e = .returned (.tuple #[.string (M5.bs p.1), .string (M5.bs p.2)]) ∧ Below w.heap.size w w'
theorem hasP1 (s : ByteArray) (c : UInt8) : Lib.hasPrefix s.data.toList [c] = (s.data.toList.head? == some c) := by
  show [c].isPrefixOf s.data.toList = _
  cases s.data.toList with
  | nil => rfl
  | cons d r =>
    show (c == d && true) = (some d == some c)
    rw [Bool.and_true, Bool.beq_comm]
    rfl
theorem drop1_bs (s : ByteArray) : s.extract 1 s.size = M5.bs (s.data.toList.drop 1) := by
  rw [bs_cut, List.take_of_length_le (by rw [List.length_drop]; exact Nat.le_refl _)]
theorem bs_drop (l : List UInt8) (k : Nat) : (M5.bs l).extract k l.length = M5.bs (l.drop k) := by
  rw [bs_cut, M5.bs_data, List.take_of_length_le (by rw [List.length_drop]; exact Nat.le_refl _)]

set_option maxHeartbeats 4000000 in
set_option maxRecDepth 100000 in
theorem tokValue (s : ByteArray) (w : World) (hs : s.size ≤ 1073741824) : Calls Try.prog 93 #[.string s] w (PairPost (M5.valC s.data.toList) w) := by
  have hH := Lib.hid (fun c w => hasPrefix_any s ⟨#[c]⟩ w)
  have e34 := hasP1 s 34
  have e39 := hasP1 s 39
  have hT := Lib.hid (tokTake s w (asksBare w) hs)
  by_cases hq : ∃ q t, s.data.toList = q :: t ∧ (q = 34 ∨ q = 39)
  · obtain ⟨q, t, hl, hq⟩ := hq
    have h0 : 0 < s.size := by
      have : s.data.toList.length = s.size := rfl
      rw [hl] at this
      simp at this
      omega
    have hq0 : s[0] = q := by
      have := drop_cons s 0 h0
      rw [List.drop_zero, hl] at this
      exact (List.cons.inj this).1.symm
    have hd1 : s.data.toList.drop 1 = t := by rw [hl]; rfl
    have hqn : q.toNat < 128 := by rcases hq with rfl | rfl <;> decide
    have hv : Hid (M5.valC s.data.toList = M5.quoted q t) := by
      show _ = _
      rw [hl, M5.valC, if_pos hq]
    rw [hv.out]
    clear hv
    have e34' : Lib.hasPrefix s.data.toList [34] = (q == 34) := by rw [e34, hl]; rfl
    have e39' : Lib.hasPrefix s.data.toList [39] = (q == 39) := by rw [e39, hl]; rfl
    have hc0 : (w.alloc (.cells #[.int .i32 (q.toNat : Int)] 21)).cell? ⟨w.heap.size, 0, none⟩ = some (.int .i32 (q.toNat : Int)) := by go_simp
    have hA := asksMark (w.alloc (.cells #[.int .i32 (q.toNat : Int)] 21)) q hqn w.heap.size hc0
    have h1s : (s.extract 1 s.size).size ≤ 1073741824 := by rw [ByteArray.size_extract]; omega
    have hx1 : (s.extract 1 s.size).data.toList = t := by rw [drop1_bs, M5.bs_data, hd1]
    obtain ⟨txt, htxt⟩ : ∃ x, Hid (x = M5.bs (t.takeWhile (· != q))) := ⟨_, rfl⟩
    obtain ⟨rest, hrest⟩ : ∃ x, Hid (x = t.dropWhile (· != q)) := ⟨_, rfl⟩
    obtain ⟨rb, hrb⟩ : ∃ x, Hid (x = M5.bs rest) := ⟨_, rfl⟩
    have hT2 : Hid (Calls Try.prog 61 #[.string (s.extract 1 s.size), .func (.func 106) #[] #[.pointer (some ⟨w.heap.size, 0, none⟩)]] (w.alloc (.cells #[.int .i32 (q.toNat : Int)] 21)) (fun e w' => e = .returned (.tuple #[.string txt, .string rb]) ∧ Below (w.alloc (.cells #[.int .i32 (q.toNat : Int)] 21)).heap.size (w.alloc (.cells #[.int .i32 (q.toNat : Int)] 21)) w')) := Lib.hid ((tokTake (s.extract 1 s.size) _ hA h1s).mono (by
      rintro e w' ⟨rfl, hb⟩
      rw [hx1, ← htxt.out, ← hrest.out, ← hrb.out]
      exact ⟨rfl, hb⟩))
    have hlen : rb.size = rest.length := by rw [hrb.out, bs_size]
    have hcut : Hid (∀ k, rb.extract k rest.length = M5.bs (rest.drop k)) := Lib.hid (fun k => by rw [hrb.out, bs_drop])
    have hquo : Hid (M5.quoted q t = (t.takeWhile (· != q), rest.drop 1)) := by show _ = _; rw [hrest.out]; rfl
    rw [hquo.out]
    have hb0 := Lib.hid ((Below.refl _ w).alloc (Nat.le_refl _) (.cells #[.int .i32 (q.toNat : Int)] 21))
    replace hd1 := Lib.hid hd1
    replace hl := Lib.hid hl
    clear hT hA hc0 h1s
    have hq3 : (q == 34) = true ∨ ((q == 34) = false ∧ (q == 39) = true) := by
      rcases hq with rfl | rfl
      · exact .inl rfl
      · exact .inr ⟨by decide, rfl⟩
    clear e34 e39
    rcases hq3 with h34 | ⟨h34, h39⟩
    all_goals
      go_enter Try.func93, Try.ntmps93
      go_wp2_with (first | (go_at_call 37; refine (hasPrefix_any _ _ _).mono ?_; rintro e w1 ⟨rfl, rfl⟩; first | rw [e34', h34] | rw [e39', h39]))
      refine hT2.out.mono ?_
      rintro e1 w2 ⟨rfl, hb2⟩
      have hbW := Lib.hid (bt hb0.out hb2)
      have hmin : Hid (rest.drop (min 1 (rest.length : Int)).toNat = rest.drop 1) := by
        show _ = _
        by_cases hz : rest.length = 0
        · rw [List.drop_of_length_le (by omega), List.drop_of_length_le (by omega)]
        · rw [show (min 1 (rest.length : Int)).toNat = 1 by omega]
      go_wp2_with fail
      go_region
      go_wp2_with fail
      go_ret2
      exact ⟨by rw [← hmin.out, ← hcut.out, ← htxt.out]; rfl, below_drewN hbW.out 1⟩
  · have hv : Hid (M5.valC s.data.toList = (s.data.toList.takeWhile M5.bareB, s.data.toList.dropWhile M5.bareB)) := by
      show _ = _
      cases hl : s.data.toList with
      | nil => rfl
      | cons q t => rw [M5.valC, if_neg (fun h => hq ⟨q, t, hl, h⟩)]
    have e34' : Lib.hasPrefix s.data.toList [34] = false := by
      rw [e34, beq_eq_false_iff_ne]
      intro h
      cases hl : s.data.toList with
      | nil => rw [hl] at h; cases h
      | cons q t => rw [hl] at h; exact hq ⟨q, t, hl, .inl (Option.some.inj h)⟩
    have e39' : Lib.hasPrefix s.data.toList [39] = false := by
      rw [e39, beq_eq_false_iff_ne]
      intro h
      cases hl : s.data.toList with
      | nil => rw [hl] at h; cases h
      | cons q t => rw [hl] at h; exact hq ⟨q, t, hl, .inr (Option.some.inj h)⟩
    rw [hv.out]
    clear hv e34 e39 hq
    go_enter Try.func93, Try.ntmps93
    go_wp2_with (first | (go_at_call 37; refine (hasPrefix_any _ _ _).mono ?_; rintro e w1 ⟨rfl, rfl⟩; first | rw [e34'] | rw [e39']) | (go_at_call 61; refine hT.out.mono ?_; rintro e1 w1 ⟨rfl, hb1⟩))
    go_ret2
    exact ⟨rfl, hb1⟩
end Go.Proofs.Ytlknmnldblodbaa

/- Package token: an attribute. -/
namespace Go.Proofs.Ytlknmnldblodbaa
open Go.RowKit

/-- The call tells the two texts, in any world. -/
def Gives2 (F : Nat) (args : Array Value) (a b : ByteArray) : Prop := ∀ w, Calls Try.prog F args w (fun e w' => e = .returned (.tuple #[.string a, .string b]) ∧ Below w.heap.size w w')
def Gives1 (F : Nat) (args : Array Value) (a : ByteArray) : Prop := ∀ w, Calls Try.prog F args w (fun e w' => e = .returned (.string a) ∧ Below w.heap.size w w')
theorem take2 {F : Nat} {q : UInt8 → Bool} (hA : ∀ w, Asks F #[] q w) (s : ByteArray) (hs : s.size ≤ 1073741824) : Gives2 61 #[.string s, .func (.func F) #[] #[]] (M5.bs (s.data.toList.takeWhile q)) (M5.bs (s.data.toList.dropWhile q)) := fun w => tokTake s w (hA w) hs
theorem fold1 (s : ByteArray) (hs : s.size ≤ 1073741824) : Gives1 91 #[.string s] (M5.bs (M1.fold s.data.toList)) := fun w => utfFold s w (by omega)
theorem decode1 (s : ByteArray) (hs : s.size ≤ 1073741824) : Gives1 57 #[.string s] (M5.bs (M2.decode s.data.toList)) := fun w => refsDecode s w hs
theorem value2 (s : ByteArray) (hs : s.size ≤ 1073741824) : Gives2 93 #[.string s] (M5.bs (M5.valC s.data.toList).1) (M5.bs (M5.valC s.data.toList).2) := fun w => tokValue s w hs

def AttCPost (p : Att × List UInt8) (w : World) (e : Ending) (w' : World) : Prop :=
  e = .returned (.tuple #[.agg #[.string p.1.name, .string p.1.value], .string (M5.bs p.2)]) ∧ Below w.heap.size w w'

set_option maxHeartbeats 4000000 in
set_option maxRecDepth 100000 in
theorem tokAttribute (s : ByteArray) (w : World) (hs : s.size ≤ 1073741824) : Calls Try.prog 63 #[.string s] w (AttCPost (M5.attC s.data.toList) w) := by
  obtain ⟨n0, hn0⟩ : ∃ x, Hid (x = M5.bs (s.data.toList.takeWhile M5.keyB)) := ⟨_, rfl⟩
  obtain ⟨s1, hs1⟩ : ∃ x, Hid (x = M5.bs (s.data.toList.dropWhile M5.keyB)) := ⟨_, rfl⟩
  have hn0s : n0.size ≤ 1073741824 := by rw [hn0.out]; exact Nat.le_trans (tw_le _ s) hs
  have hs1s : s1.size ≤ 1073741824 := by rw [hs1.out]; exact Nat.le_trans (dw_le _ s) hs
  have hT1 := take2 asksKey s hs
  rw [← hn0.out, ← hs1.out] at hT1
  obtain ⟨nm, hnm⟩ : ∃ x, Hid (x = M5.bs (M1.fold n0.data.toList)) := ⟨_, rfl⟩
  have hF := fold1 n0 hn0s
  rw [← hnm.out] at hF
  obtain ⟨x2, hx2⟩ : ∃ x, Hid (x = M5.bs (s1.data.toList.takeWhile M5.blankB)) := ⟨_, rfl⟩
  obtain ⟨s2, hs2⟩ : ∃ x, Hid (x = M5.bs (s1.data.toList.dropWhile M5.blankB)) := ⟨_, rfl⟩
  have hs2s : s2.size ≤ 1073741824 := by rw [hs2.out]; exact Nat.le_trans (dw_le _ s1) hs1s
  have hT2 := take2 asksBlank s1 hs1s
  rw [← hx2.out, ← hs2.out] at hT2
  have hnm2 : Hid (nm = M5.bs (M1.fold (s.data.toList.takeWhile M5.keyB))) := by show _ = _; rw [hnm.out, hn0.out, M5.bs_data]
  have hr0 : Hid ((s.data.toList.dropWhile M5.keyB).dropWhile M5.blankB = s2.data.toList) := by show _ = _; rw [hs2.out, hs1.out, M5.bs_data, M5.bs_data]
  replace hT1 := Lib.hid hT1
  replace hF := Lib.hid hF
  replace hT2 := Lib.hid hT2
  have e61 := hasP1 s2 61
  obtain ⟨wo, rfl⟩ : ∃ wo : World, wo = w := ⟨_, rfl⟩
  have bx0 := Box.new wo 44 [.string ⟨#[]⟩, .string ⟨#[]⟩]
  have hb0 := Lib.hid ((Below.refl _ wo).alloc (Nat.le_refl _) (.cells #[.string ⟨#[]⟩, .string ⟨#[]⟩] 44))
  by_cases h61 : ∃ r, s2.data.toList = 61 :: r
  · obtain ⟨r, hr⟩ := h61
    have e61' : Lib.hasPrefix s2.data.toList [61] = true := by rw [e61, hr]; rfl
    have h2p : 0 < s2.size := by
      have : s2.data.toList.length = s2.size := rfl
      rw [hr] at this
      simp at this
      omega
    have hd2 : (s2.extract 1 s2.size).data.toList = r := by rw [drop1_bs, M5.bs_data, hr]; rfl
    have hd2s : (s2.extract 1 s2.size).size ≤ 1073741824 := by rw [ByteArray.size_extract]; omega
    obtain ⟨x3, hx3⟩ : ∃ x, Hid (x = M5.bs (r.takeWhile M5.blankB)) := ⟨_, rfl⟩
    obtain ⟨s3, hs3⟩ : ∃ x, Hid (x = M5.bs (r.dropWhile M5.blankB)) := ⟨_, rfl⟩
    have hT3 := take2 asksBlank (s2.extract 1 s2.size) hd2s
    rw [hd2, ← hx3.out, ← hs3.out] at hT3
    have hs3s : s3.size ≤ 1073741824 := by
      have := dw_le M5.blankB (s2.extract 1 s2.size)
      rw [hd2, ← hs3.out] at this
      omega
    obtain ⟨x4, hx4⟩ : ∃ x, Hid (x = M5.bs (M5.valC s3.data.toList).1) := ⟨_, rfl⟩
    obtain ⟨s4, hs4⟩ : ∃ x, Hid (x = M5.bs (M5.valC s3.data.toList).2) := ⟨_, rfl⟩
    have hV := value2 s3 hs3s
    rw [← hx4.out, ← hs4.out] at hV
    have hx4s : x4.size ≤ 1073741824 := by
      rw [hx4.out, bs_size]
      have := M5.valC_fst_le s3.data.toList
      have h3 : s3.data.toList.length = s3.size := rfl
      omega
    obtain ⟨dv, hdv⟩ : ∃ x, Hid (x = M5.bs (M2.decode x4.data.toList)) := ⟨_, rfl⟩
    have hD := decode1 x4 hx4s
    rw [← hdv.out] at hD
    have hR : Hid (M5.attC s.data.toList = (⟨nm, dv⟩, (M5.valC s3.data.toList).2)) := by
      show _ = _
      rw [M5.attC_61 _ r (by rw [hr0.out, hr]), ← hnm2.out, hdv.out, hx4.out, hs3.out, M5.bs_data, M5.bs_data]
    rw [hR.out]
    replace hT3 := Lib.hid hT3
    replace hV := Lib.hid hV
    replace hD := Lib.hid hD
    replace hr := Lib.hid hr
    replace hd2 := Lib.hid hd2
    clear e61
    go_enter Try.func63, Try.ntmps63
    go_wp2_with fail
    refine (hT1.out _).mono ?_
    rintro e1 w1 ⟨rfl, hb1⟩
    have bx1 := bx0.below hb1 bx0.lt
    have hbW1 := Lib.hid (bt hb0.out hb1)
    go_wp2_with fail
    refine (hF.out _).mono ?_
    rintro e1 w2 ⟨rfl, hb2⟩
    have bx2 := bx1.below hb2 bx1.lt
    have hbW2 := Lib.hid (bt hbW1.out hb2)
    go_wp2_with fail
    refine (hT2.out _).mono ?_
    rintro e1 w3 ⟨rfl, hb3⟩
    have ba3 := (Box.new w2 44 [.string nm, .string ⟨#[]⟩]).below hb3 (by simp)
    have bx3 := (bx2.alloc (.cells #[.string nm, .string ⟨#[]⟩] 44)).below hb3 (by simp; exact Nat.lt_succ_of_lt bx2.lt)
    have hbW3 := Lib.hid (bt (hbW2.out.alloc (by have := bx2.lt; omega) (.cells #[.string nm, .string ⟨#[]⟩] 44)) hb3)
    have hz3 : wo.heap.size < w2.heap.size := bx2.lt
    go_wp2_with (go_at_call 37; refine (hasPrefix_any _ _ _).mono ?_; rintro e w1 ⟨rfl, rfl⟩; rw [e61'])
    refine (hT3.out _).mono ?_
    rintro e1 w4 ⟨rfl, hb4⟩
    have ba4 := ba3.below hb4 ba3.lt
    have bx4 := bx3.below hb4 bx3.lt
    have hbW4 := Lib.hid (bt hbW3.out hb4)
    go_wp2_with fail
    refine (hV.out _).mono ?_
    rintro e1 w5 ⟨rfl, hb5⟩
    have ba5 := ba4.below hb5 ba4.lt
    have bx5 := bx4.below hb5 bx4.lt
    have hbW5 := Lib.hid (bt hbW4.out hb5)
    go_wp2_with fail
    refine (hD.out _).mono ?_
    rintro e1 w6 ⟨rfl, hb6⟩
    have ba6 := ba5.below hb6 ba5.lt
    have bx6 := bx5.below hb6 bx5.lt
    have hbW6 := Lib.hid (bt hbW5.out hb6)
    have bav := ba6.set 1 (.string dv)
    simp only [List.set_cons_succ, List.set_cons_zero] at bav
    have v0 := bav.cell (i := 0) rfl
    have v1 := bav.cell (i := 1) rfl
    have bxv := bx6.far (p := ⟨w2.heap.size, 1, none⟩) (by show wo.heap.size ≠ w2.heap.size; omega) (.string dv)
    have r0 := bxv.cell (i := 0) rfl
    have r1 := bxv.cell (i := 1) rfl
    have f0 := bxv.free 0
    have f1 := bxv.free 1
    have kf := ba6.free 1
    have k1 := ba6.cell (i := 1) rfl
    have bxf := Lib.hid (bxv.two (.string nm) (.string dv))
    have hbf := Lib.hid (two_below (hbW6.out.setCell (p := ⟨w2.heap.size, 1, none⟩) (by show wo.heap.size ≤ w2.heap.size; omega) (.string dv)) (g := wo.heap.size) (.string nm) (.string dv) (Nat.le_refl _))
    clear hb1 hb2 hb3 hb4 hb5 hb6
    go_wp2_with fail
    have t0 := bxf.out.cell (i := 0) rfl
    have t1 := bxf.out.cell (i := 1) rfl
    exact bodyPost_ret (v := .tuple #[.agg #[.string nm, .string dv], .string s4]) (by simp [results, Try.results63, go_sem, t0, t1]) rfl ⟨by rw [hs4.out], hbf.out⟩
  · have e61' : Lib.hasPrefix s2.data.toList [61] = false := by
      rw [e61, beq_eq_false_iff_ne]
      intro h
      cases hl : s2.data.toList with
      | nil => rw [hl] at h; cases h
      | cons q t => rw [hl] at h; exact h61 ⟨t, by rw [hl, Option.some.inj h]⟩
    have hR : Hid (M5.attC s.data.toList = (⟨nm, ⟨#[]⟩⟩, s2.data.toList)) := by
      show _ = _
      rw [M5.attC_ne _ (fun r h => h61 ⟨r, by rw [← hr0.out]; exact h⟩), ← hnm2.out, hr0.out]
    rw [hR.out]
    replace h61 := Lib.hid h61
    clear e61
    go_enter Try.func63, Try.ntmps63
    go_wp2_with fail
    refine (hT1.out _).mono ?_
    rintro e1 w1 ⟨rfl, hb1⟩
    have bx1 := bx0.below hb1 bx0.lt
    have hbW1 := Lib.hid (bt hb0.out hb1)
    go_wp2_with fail
    refine (hF.out _).mono ?_
    rintro e1 w2 ⟨rfl, hb2⟩
    have bx2 := bx1.below hb2 bx1.lt
    have hbW2 := Lib.hid (bt hbW1.out hb2)
    go_wp2_with fail
    refine (hT2.out _).mono ?_
    rintro e1 w3 ⟨rfl, hb3⟩
    have ba3 := (Box.new w2 44 [.string nm, .string ⟨#[]⟩]).below hb3 (by simp)
    have bx3 := (bx2.alloc (.cells #[.string nm, .string ⟨#[]⟩] 44)).below hb3 (by simp; exact Nat.lt_succ_of_lt bx2.lt)
    have hbW3 := Lib.hid (bt (hbW2.out.alloc (by have := bx2.lt; omega) (.cells #[.string nm, .string ⟨#[]⟩] 44)) hb3)
    have hz3 : wo.heap.size < w2.heap.size := bx2.lt
    have v0 := ba3.cell (i := 0) rfl
    have v1 := ba3.cell (i := 1) rfl
    have r0 := bx3.cell (i := 0) rfl
    have r1 := bx3.cell (i := 1) rfl
    have f0 := bx3.free 0
    have f1 := bx3.free 1
    have bxf := Lib.hid (bx3.two (.string nm) (.string ⟨#[]⟩))
    have hbf := Lib.hid (two_below hbW3.out (g := wo.heap.size) (.string nm) (.string ⟨#[]⟩) (Nat.le_refl _))
    clear hb1 hb2 hb3
    go_wp2_with (go_at_call 37; refine (hasPrefix_any _ _ _).mono ?_; rintro e w1 ⟨rfl, rfl⟩; rw [e61'])
    have t0 := bxf.out.cell (i := 0) rfl
    have t1 := bxf.out.cell (i := 1) rfl
    exact bodyPost_ret (v := .tuple #[.agg #[.string nm, .string ⟨#[]⟩], .string s2]) (by simp [results, Try.results63, go_sem, t0, t1]) rfl ⟨by rw [M5.bs_of], hbf.out⟩
end Go.Proofs.Ytlknmnldblodbaa

/- Tokens by definitions: an ending tag, a comment; a word found as the library finds it. -/
namespace Go.Proofs.Ytlknmnldblodbaa.M5

theorem index_find (w l : List UInt8) (hw : w ≠ []) : Lib.index l w = if findL w l < l.length then (findL w l : Int) else -1 := by
  induction l with
  | nil =>
    cases w with
    | nil => exact absurd rfl hw
    | cons a b => rfl
  | cons c r ih =>
    rw [Lib.index, findL]
    cases hp : w.isPrefixOf (c :: r)
    · rw [if_neg Bool.false_ne_true, if_neg Bool.false_ne_true, ih]
      simp only [List.length_cons]
      by_cases h : findL w r < r.length
      · have hne : ((findL w r : Int) == -1) = false := by rw [beq_eq_false_iff_ne]; omega
        rw [if_pos h, if_pos (show findL w r + 1 < r.length + 1 by omega), hne, if_neg Bool.false_ne_true]
        omega
      · rw [if_neg h, if_neg (show ¬ findL w r + 1 < r.length + 1 by omega)]
        rfl
    · rw [if_pos rfl, if_pos rfl, if_pos (by simp)]
      rfl
theorem cut_upto (w l : List UInt8) (hw : w ≠ []) : (Lib.cut l w).1 = (uptoR w l).1 ∧ (Lib.cut l w).2.1 = (uptoR w l).2 := by
  unfold Lib.cut uptoR
  rw [index_find w l hw]
  by_cases h : findL w l < l.length
  · rw [if_pos h, if_pos h, if_pos (by omega)]
    exact ⟨by rw [Int.toNat_natCast], by rw [Int.toNat_natCast]⟩
  · rw [if_neg h, if_neg h, if_neg (by decide)]
    exact ⟨rfl, rfl⟩
/-- What an ending tag tells; r stands behind its first two bytes. -/
def endR (r : List UInt8) : Tok × List UInt8 := if findL [62] r < r.length then (⟨2, bs (M1.fold (r.takeWhile nameB)), [], ⟨#[]⟩⟩, r.drop (findL [62] r + 1)) else (zero, [])
theorem drop_name (r : List UInt8) : (r.dropWhile nameB).dropWhile (· != 62) = r.drop (findL [62] r) := by
  rw [findL_span, span_drop]
  induction r with
  | nil => rfl
  | cons c t ih =>
    rw [List.dropWhile_cons]
    cases hn : nameB c
    · rfl
    · have h62 : (c != 62) = true := by
        rw [bne_iff_ne]
        intro e
        subst e
        exact absurd hn (by decide)
      rw [if_pos rfl, ih, List.dropWhile_cons, h62, if_pos rfl]
def remarkR (w l : List UInt8) : Tok × List UInt8 := (⟨4, ⟨#[]⟩, [], bs (uptoR w l).1⟩, (uptoR w l).2)
end Go.Proofs.Ytlknmnldblodbaa.M5

/- Contracts of the library's shelf, laid in plain words (lay-plain.mjs), this program's numbers by name. -/
namespace Go.Proofs.Ytlknmnldblodbaa
open Go.Shelf
def Try.lays143_ren : Go.Shelf.Ren := ⟨fun | 143 => 99 | 219 => 107 | 217 => 69 | 225 => 112 | 224 => 113 | 267 => 114 | 266 => 95 | 314 => 116 | n => n, fun | 9 => 9 | 3 => 3 | 4 => 4 | 5 => 5 | 46 => 116 | 146 => 117 | 51 => 114 | n => n, fun | 1 => 0 | n => n⟩
theorem Try.lays143 : Go.Proofs.Lays.n143 Try.prog Try.lays143_ren := {
  mixed := by kernel_rfl
  f143 := Try.func99.trans (congrArg some (by kernel_rfl))
  f217 := Try.func69.trans (congrArg some (by kernel_rfl))
  f219 := Try.func107.trans (congrArg some (by kernel_rfl))
  f224 := Try.func113.trans (congrArg some (by kernel_rfl))
  f225 := Try.func112.trans (congrArg some (by kernel_rfl))
  f266 := Try.func95.trans (congrArg some (by kernel_rfl))
  f267 := Try.func114.trans (congrArg some (by kernel_rfl))
  f314 := Try.func116.trans (congrArg some (by kernel_rfl))
  t3 := Try.underlying3
  a3 := Try.isAgg3
  z3 := Try.sizeOf3
  v3 := Try.zeroValue3
  t4 := Try.underlying4
  a4 := Try.isAgg4
  z4 := Try.sizeOf4
  v4 := Try.zeroValue4
  t5 := Try.underlying5
  a5 := Try.isAgg5
  z5 := Try.sizeOf5
  v5 := Try.zeroValue5
  t9 := Try.underlying9
  a9 := Try.isAgg9
  z9 := Try.sizeOf9
  v9 := Try.zeroValue9
  t46 := Try.underlying116
  a46 := Try.isAgg116
  z46 := Try.sizeOf116
  v46 := Try.zeroValue116
  t51 := Try.underlying114
  a51 := Try.isAgg114
  z51 := Try.sizeOf114
  v51 := Try.zeroValue114
  t146 := Try.underlying117
  a146 := Try.isAgg117
  z146 := Try.sizeOf117
  v146 := Try.zeroValue117
  g1 := by kernel_rfl }
open Go.RowKit Go.Lib in
theorem Try.strings_Index_one (s : ByteArray) (c : UInt8) (w : World) :
    Calls Try.prog 99 #[.string s, .string ⟨#[c]⟩] w fun e w' => e = .returned (.int .i64 (Lib.indexByte s.data.toList c)) ∧ w' = w := Any.strings_Index_one Try.lays143 s c w
def Try.lays145_ren : Go.Shelf.Ren := ⟨fun | 145 => 66 | 220 => 94 | 219 => 107 | 217 => 69 | 225 => 112 | 224 => 113 | 267 => 114 | 266 => 95 | 314 => 116 | n => n, fun | 9 => 9 | 4 => 4 | 59 => 76 | 3 => 3 | 5 => 5 | 46 => 116 | 146 => 117 | 51 => 114 | n => n, fun | 1 => 0 | n => n⟩
theorem Try.lays145 : Go.Proofs.Lays.n145 Try.prog Try.lays145_ren := {
  mixed := by kernel_rfl
  f145 := Try.func66.trans (congrArg some (by kernel_rfl))
  f217 := Try.func69.trans (congrArg some (by kernel_rfl))
  f219 := Try.func107.trans (congrArg some (by kernel_rfl))
  f220 := Try.func94.trans (congrArg some (by kernel_rfl))
  f224 := Try.func113.trans (congrArg some (by kernel_rfl))
  f225 := Try.func112.trans (congrArg some (by kernel_rfl))
  f266 := Try.func95.trans (congrArg some (by kernel_rfl))
  f267 := Try.func114.trans (congrArg some (by kernel_rfl))
  f314 := Try.func116.trans (congrArg some (by kernel_rfl))
  t3 := Try.underlying3
  a3 := Try.isAgg3
  z3 := Try.sizeOf3
  v3 := Try.zeroValue3
  t4 := Try.underlying4
  a4 := Try.isAgg4
  z4 := Try.sizeOf4
  v4 := Try.zeroValue4
  t5 := Try.underlying5
  a5 := Try.isAgg5
  z5 := Try.sizeOf5
  v5 := Try.zeroValue5
  t9 := Try.underlying9
  a9 := Try.isAgg9
  z9 := Try.sizeOf9
  v9 := Try.zeroValue9
  t46 := Try.underlying116
  a46 := Try.isAgg116
  z46 := Try.sizeOf116
  v46 := Try.zeroValue116
  t51 := Try.underlying114
  a51 := Try.isAgg114
  z51 := Try.sizeOf114
  v51 := Try.zeroValue114
  t59 := Try.underlying76
  a59 := Try.isAgg76
  z59 := Try.sizeOf76
  v59 := Try.zeroValue76
  t146 := Try.underlying117
  a146 := Try.isAgg117
  z146 := Try.sizeOf117
  v146 := Try.zeroValue117
  g1 := by kernel_rfl }
open Go.RowKit Go.Lib in
theorem Try.strings_Cut (s sep : ByteArray) (m : Int) (w : World) (hs : s.size < 4294967281) (hm : w.cell? ⟨0, 0, none⟩ = some (.int .i64 m)) :
    Calls Try.prog 66 #[.string s, .string sep] w fun e w' => e = .returned (.tuple #[.string ⟨(Lib.cut s.data.toList sep.data.toList).1.toArray⟩, .string ⟨(Lib.cut s.data.toList sep.data.toList).2.1.toArray⟩, .bool (Lib.cut s.data.toList sep.data.toList).2.2]) ∧ ∃ n, w' = w.drewN n := Any.strings_Cut Try.lays145 s sep m w hs hm
def Try.laysM145_ren : Go.Shelf.Ren := ⟨fun | 145 => 66 | 220 => 94 | 219 => 107 | 217 => 69 | 225 => 112 | 224 => 113 | 267 => 114 | 266 => 95 | 314 => 116 | n => n, fun | 9 => 9 | 4 => 4 | 59 => 76 | 3 => 3 | 5 => 5 | 46 => 116 | 146 => 117 | 51 => 114 | n => n, fun | 1 => 0 | n => n⟩
theorem Try.laysM145 : Go.Proofs.LaysM.n145 Try.prog Try.laysM145_ren := {
  mixed := by kernel_rfl
  f145 := Try.func66.trans (congrArg some (by kernel_rfl))
  f217 := Try.func69.trans (congrArg some (by kernel_rfl))
  f219 := Try.func107.trans (congrArg some (by kernel_rfl))
  f220 := Try.func94.trans (congrArg some (by kernel_rfl))
  f224 := Try.func113.trans (congrArg some (by kernel_rfl))
  f225 := Try.func112.trans (congrArg some (by kernel_rfl))
  f266 := Try.func95.trans (congrArg some (by kernel_rfl))
  f267 := Try.func114.trans (congrArg some (by kernel_rfl))
  f314 := Try.func116.trans (congrArg some (by kernel_rfl))
  t3 := Try.underlying3
  a3 := Try.isAgg3
  z3 := Try.sizeOf3
  v3 := Try.zeroValue3
  t4 := Try.underlying4
  a4 := Try.isAgg4
  z4 := Try.sizeOf4
  v4 := Try.zeroValue4
  t5 := Try.underlying5
  a5 := Try.isAgg5
  z5 := Try.sizeOf5
  v5 := Try.zeroValue5
  t9 := Try.underlying9
  a9 := Try.isAgg9
  z9 := Try.sizeOf9
  v9 := Try.zeroValue9
  t46 := Try.underlying116
  a46 := Try.isAgg116
  z46 := Try.sizeOf116
  v46 := Try.zeroValue116
  t51 := Try.underlying114
  a51 := Try.isAgg114
  z51 := Try.sizeOf114
  v51 := Try.zeroValue114
  t59 := Try.underlying76
  a59 := Try.isAgg76
  z59 := Try.sizeOf76
  v59 := Try.zeroValue76
  t146 := Try.underlying117
  a146 := Try.isAgg117
  z146 := Try.sizeOf117
  v146 := Try.zeroValue117
  g1 := by kernel_rfl
  i3 := by kernel_rfl
  i4 := by kernel_rfl
  i5 := by kernel_rfl
  i9 := by kernel_rfl
  i46 := by kernel_rfl
  i51 := by kernel_rfl
  i59 := by kernel_rfl
  i146 := by kernel_rfl
  m1 := by kernel_rfl
  s1_3 := fun w h => Go.Proofs.cell_of_shapedOpen_int (zero := #[.int .i64 0]) (t := 3) h (of_decide_eq_true (by kernel_rfl)) (by kernel_rfl) rfl (by kernel_rfl) (by kernel_rfl) Try.underlying3 }
open Go.RowKit Go.Lib in
theorem Try.strings_Cut_shaped (s sep : ByteArray) (w : World) (h : w.ShapedOpen Try.prog) (hs : s.size < 4294967281) :
    Calls Try.prog 66 #[.string s, .string sep] w fun e w' => e = .returned (.tuple #[.string ⟨(Lib.cut s.data.toList sep.data.toList).1.toArray⟩, .string ⟨(Lib.cut s.data.toList sep.data.toList).2.1.toArray⟩, .bool (Lib.cut s.data.toList sep.data.toList).2.2]) ∧ ∃ n, w' = w.drewN n := Any.strings_Cut_shaped Try.laysM145 s sep w h hs
end Go.Proofs.Ytlknmnldblodbaa

/- Package token: an ending tag, a comment. -/
namespace Go.Proofs.Ytlknmnldblodbaa
open Go.RowKit

/-- The library's variable holds a number. -/
def Glo (w : World) : Prop := ∃ m : Int, w.cell? ⟨0, 0, none⟩ = some (.int .i64 m)
theorem Glo.below {B : Nat} {w w' : World} (h : Glo w) (hb : Below B w w') (hB : w.heap.size ≤ B) : Glo w' := by
  obtain ⟨m, hm⟩ := h
  exact ⟨m, by rw [hb.cell (Nat.lt_of_lt_of_le (World.block_lt_of_cell? w _ hm) hB)]; exact hm⟩
theorem named2 (s : ByteArray) (hs : s.size ≤ 1073741824) : Gives2 60 #[.string s] (M5.bs (M1.fold (s.data.toList.takeWhile M5.nameB))) (M5.bs (s.data.toList.dropWhile M5.nameB)) := fun w => tokNamed s w hs
theorem clone1 (s : ByteArray) (hs : s.size ≤ 1073741824) : Gives1 58 #[.string s] s := fun w => sClone s w (by omega)
theorem cut_world {s sep : ByteArray} {w : World} (hg : Glo w) (hs : s.size ≤ 1073741824) (hsep : sep.data.toList ≠ []) :
    Calls Try.prog 66 #[.string s, .string sep] w fun e w' => ∃ b, e = .returned (.tuple #[.string (M5.bs (M5.uptoR sep.data.toList s.data.toList).1), .string (M5.bs (M5.uptoR sep.data.toList s.data.toList).2), .bool b]) ∧ Below w.heap.size w w' := by
  obtain ⟨m, hm⟩ := hg
  refine (Try.strings_Cut s sep m w (by omega) hm).mono ?_
  rintro e w' ⟨rfl, n, rfl⟩
  obtain ⟨e1, e2⟩ := M5.cut_upto sep.data.toList s.data.toList hsep
  exact ⟨_, by rw [e1, e2]; rfl, below_drewN (Below.refl _ _) n⟩
theorem dropk_bs (s : ByteArray) (k : Nat) : s.extract k s.size = M5.bs (s.data.toList.drop k) := by
  rw [bs_cut, List.take_of_length_le (by rw [List.length_drop]; exact Nat.le_refl _)]

theorem isEmpty_yes (s : ByteArray) (h : s.size = 0) : s.toList.isEmpty = true := by
  rw [Lib.toList_data, List.isEmpty_iff]
  exact List.eq_nil_of_length_eq_zero h
theorem isEmpty_no (s : ByteArray) (h : 0 < s.size) : s.toList.isEmpty = false := by
  rw [Lib.toList_data, List.isEmpty_eq_false_iff]
  intro e
  have : s.data.toList.length = s.size := rfl
  rw [e] at this
  simp at this
  omega
theorem tokPost_nil {k : Int} {nm tx : ByteArray} {n : Nat} {z : Int} {w w' : World} (hz : z = (n : Int)) (hb : Below w.heap.size w w') :
    TokPost ⟨k, nm, [], tx⟩ n w (.returned (.tuple #[.agg #[.int .i64 k, .string nm, .slice none 0 0, .string tx], .int .i64 z])) w' := by
  subst hz
  exact ⟨.slice none 0 0, rfl, World.ownsRow_nil _ w.heap.size _ _, hb⟩

set_option maxHeartbeats 4000000 in
set_option maxRecDepth 100000 in
theorem tokRemark (s first last : ByteArray) (w : World) (hg : Glo w) (hs : s.size ≤ 1073741824) (hf : first.size ≤ s.size) (hl : last.data.toList ≠ []) :
    Calls Try.prog 38 #[.string s, .string first, .string last] w (TokPost (M5.remarkR last.data.toList (s.data.toList.drop first.size)).1 (s.size - (M5.remarkR last.data.toList (s.data.toList.drop first.size)).2.length) w) := by
  have hx : (s.extract first.size s.size).data.toList = s.data.toList.drop first.size := by rw [dropk_bs, M5.bs_data]
  have hxs : (s.extract first.size s.size).size ≤ 1073741824 := by rw [ByteArray.size_extract]; omega
  have hC := fun (w1 : World) (h : Glo w1) => cut_world (sep := last) h hxs hl
  rw [hx] at hC
  have hsuf := M5.upto_suf last.data.toList (s.data.toList.drop first.size)
  have hle := hsuf.le
  rw [List.length_drop, show s.data.toList.length = s.size from rfl] at hle
  have hsuf2 := (hsuf.trans (M5.Suf.drop _ _)).at_
  unfold M5.remarkR
  obtain ⟨tx, htx⟩ : ∃ x, Hid (x = M5.bs (M5.uptoR last.data.toList (s.data.toList.drop first.size)).1) := ⟨_, rfl⟩
  obtain ⟨rs, hrs⟩ : ∃ x, Hid (x = M5.bs (M5.uptoR last.data.toList (s.data.toList.drop first.size)).2) := ⟨_, rfl⟩
  have htxs : tx.size ≤ 1073741824 := by
    rw [htx.out, bs_size]
    have : (M5.uptoR last.data.toList (s.data.toList.drop first.size)).1.length ≤ (s.data.toList.drop first.size).length := by
      unfold M5.uptoR
      split
      · exact List.length_take_le' _ _
      · exact Nat.le_refl _
    rw [List.length_drop, show s.data.toList.length = s.size from rfl] at this
    omega
  have hrss : rs.size = (M5.uptoR last.data.toList (s.data.toList.drop first.size)).2.length := by rw [hrs.out, bs_size]
  rw [← htx.out, ← hrs.out] at hC
  rw [← htx.out]
  have hD := clone1 tx htxs
  generalize (M5.uptoR last.data.toList (s.data.toList.drop first.size)).2 = R at *
  replace hC := Lib.hid hC
  replace hD := Lib.hid hD
  replace hsuf2 := Lib.hid hsuf2
  replace hx := Lib.hid hx
  obtain ⟨wo, rfl⟩ : ∃ wo : World, wo = w := ⟨_, rfl⟩
  have bx0 := Box.new wo 31 [.int .i64 0, .string ⟨#[]⟩, .slice none 0 0, .string ⟨#[]⟩]
  have hb0 := (Below.refl _ wo).alloc (Nat.le_refl _) (.cells #[.int .i64 0, .string ⟨#[]⟩, .slice none 0 0, .string ⟨#[]⟩] 31)
  have hg0 := Lib.hid (hg.below hb0 (Nat.le_refl _))
  replace hb0 := Lib.hid hb0
  go_enter Try.func38, Try.ntmps38
  go_wp2_with fail
  refine (hC.out _ hg0.out).mono ?_
  rintro e1 w1 ⟨b, rfl, hb1⟩
  have bx1 := bx0.below hb1 bx0.lt
  have hbW1 := Lib.hid (bt hb0.out hb1)
  go_wp2_with fail
  refine (hD.out _).mono ?_
  rintro e1 w2 ⟨rfl, hb2⟩
  have bx2 := bx1.below hb2 bx1.lt
  have hbW2 := Lib.hid (bt hbW1.out hb2)
  have f0 := bx2.free
  have z0 := bx2.cell (i := 0) rfl
  have z1 := bx2.cell (i := 1) rfl
  have z2 := bx2.cell (i := 2) rfl
  have z3 := bx2.cell (i := 3) rfl
  have hsub : ¬ ((s.size : Int) - (R.length : Int) < 0) := by omega
  go_wp2_with fail
  have bf := bx2.four (.int .i64 4) (.string ⟨#[]⟩) (.slice none 0 0) (.string tx)
  have q0 := bf.cell (i := 0) rfl
  have q1 := bf.cell (i := 1) rfl
  have q2 := bf.cell (i := 2) rfl
  have q3 := bf.cell (i := 3) rfl
  exact bodyPost_ret (v := .tuple #[.agg #[.int .i64 4, .string ⟨#[]⟩, .slice none 0 0, .string tx], .int .i64 ((s.size : Int) - (R.length : Int))]) (by simp [results, Try.results38, go_sem, q0, q1, q2, q3]) rfl (tokPost_nil (by omega) (four_below hbW2.out _ _ _ _ (Nat.le_refl _)))

set_option maxHeartbeats 4000000 in
set_option maxRecDepth 100000 in
theorem tokEnd (s : ByteArray) (w : World) (hs : s.size ≤ 1073741824) (h2 : 2 ≤ s.size) :
    Calls Try.prog 36 #[.string s] w (TokPost (M5.endR (s.data.toList.drop 2)).1 (s.size - (M5.endR (s.data.toList.drop 2)).2.length) w) := by
  have hx : (s.extract 2 s.size).data.toList = s.data.toList.drop 2 := by rw [dropk_bs, M5.bs_data]
  have hxs : (s.extract 2 s.size).size ≤ 1073741824 := by rw [ByteArray.size_extract]; omega
  have hN := named2 (s.extract 2 s.size) hxs
  have hdl : (s.data.toList.drop 2).length = s.size - 2 := by rw [List.length_drop]; rfl
  rw [hx] at hN
  obtain ⟨nm, hnm⟩ : ∃ x, Hid (x = M5.bs (M1.fold ((s.data.toList.drop 2).takeWhile M5.nameB))) := ⟨_, rfl⟩
  obtain ⟨s1, hs1⟩ : ∃ x, Hid (x = M5.bs ((s.data.toList.drop 2).dropWhile M5.nameB)) := ⟨_, rfl⟩
  rw [← hnm.out, ← hs1.out] at hN
  have hs1l : s1.size ≤ s.size - 2 := by rw [hs1.out, bs_size, ← hdl]; exact (List.dropWhile_suffix _).length_le
  have hT := take2 asksEnd s1 (by omega)
  obtain ⟨x2, hx2⟩ : ∃ x, Hid (x = M5.bs (s1.data.toList.takeWhile (· != 62))) := ⟨_, rfl⟩
  obtain ⟨s2, hs2⟩ : ∃ x, Hid (x = M5.bs (s1.data.toList.dropWhile (· != 62))) := ⟨_, rfl⟩
  rw [← hx2.out, ← hs2.out] at hT
  have hs2e : s2 = M5.bs ((s.data.toList.drop 2).drop (M5.findL [62] (s.data.toList.drop 2))) := by rw [hs2.out, hs1.out, M5.bs_data, M5.drop_name]
  have hs2z : s2.size = s.size - 2 - M5.findL [62] (s.data.toList.drop 2) := by rw [hs2e, bs_size, List.length_drop, hdl]
  have hE : Hid (M5.endR (s.data.toList.drop 2) = if M5.findL [62] (s.data.toList.drop 2) < s.size - 2 then (⟨2, nm, [], ⟨#[]⟩⟩, s.data.toList.drop (2 + (M5.findL [62] (s.data.toList.drop 2) + 1))) else (M5.zero, [])) := by
    show _ = _
    rw [M5.endR, hdl, hnm.out, List.drop_drop]
  rw [hE.out]
  have hfl := M5.findL_le [62] (s.data.toList.drop 2)
  rw [hdl] at hfl
  generalize M5.findL [62] (s.data.toList.drop 2) = F at *
  replace hN := Lib.hid hN
  replace hT := Lib.hid hT
  replace hs2e := Lib.hid hs2e
  replace hx := Lib.hid hx
  replace hdl := Lib.hid hdl
  obtain ⟨wo, rfl⟩ : ∃ wo : World, wo = w := ⟨_, rfl⟩
  have bx0 := Box.new wo 31 [.int .i64 0, .string ⟨#[]⟩, .slice none 0 0, .string ⟨#[]⟩]
  have hb0 := Lib.hid ((Below.refl _ wo).alloc (Nat.le_refl _) (.cells #[.int .i64 0, .string ⟨#[]⟩, .slice none 0 0, .string ⟨#[]⟩] 31))
  by_cases hF : F < s.size - 2
  · rw [if_pos hF]
    have hne : s2.toList.isEmpty = false := isEmpty_no s2 (by omega)
    have hlen : (s.data.toList.drop (2 + (F + 1))).length = s.size - (2 + (F + 1)) := by rw [List.length_drop]; rfl
    replace hlen := Lib.hid hlen
    go_enter Try.func36, Try.ntmps36
    go_wp2_with fail
    refine (hN.out _).mono ?_
    rintro e1 w1 ⟨rfl, hb1⟩
    have bx1 := bx0.below hb1 bx0.lt
    have hbW1 := Lib.hid (bt hb0.out hb1)
    go_wp2_with fail
    refine (hT.out _).mono ?_
    rintro e1 w2 ⟨rfl, hb2⟩
    have bx2 := bx1.below hb2 bx1.lt
    have hbW2 := Lib.hid (bt hbW1.out hb2)
    have f0 := bx2.free
    have z0 := bx2.cell (i := 0) rfl
    have z1 := bx2.cell (i := 1) rfl
    have z2 := bx2.cell (i := 2) rfl
    have z3 := bx2.cell (i := 3) rfl
    have bf := Lib.hid (bx2.four (.int .i64 2) (.string nm) (.slice none 0 0) (.string ⟨#[]⟩))
    clear hb1 hb2
    go_wp2_with fail
    have q0 := bf.out.cell (i := 0) rfl
    have q1 := bf.out.cell (i := 1) rfl
    have q2 := bf.out.cell (i := 2) rfl
    have q3 := bf.out.cell (i := 3) rfl
    exact bodyPost_ret (v := .tuple #[.agg #[.int .i64 2, .string nm, .slice none 0 0, .string ⟨#[]⟩], .int .i64 ((s.size : Int) - ((s.size - 2 - F : Nat) : Int) + 1)]) (by simp [results, Try.results36, go_sem, q0, q1, q2, q3]) rfl (tokPost_nil (by have := hlen.out; omega) (four_below hbW2.out _ _ _ _ (Nat.le_refl _)))
  · rw [if_neg hF]
    have hze : s2.size = 0 := by omega
    have hne : s2.toList.isEmpty = true := isEmpty_yes s2 hze
    replace hze := Lib.hid hze
    go_enter Try.func36, Try.ntmps36
    go_wp2_with fail
    refine (hN.out _).mono ?_
    rintro e1 w1 ⟨rfl, hb1⟩
    have bx1 := bx0.below hb1 bx0.lt
    have hbW1 := Lib.hid (bt hb0.out hb1)
    go_wp2_with fail
    refine (hT.out _).mono ?_
    rintro e1 w2 ⟨rfl, hb2⟩
    have bx2 := bx1.below hb2 bx1.lt
    have hbW2 := Lib.hid (bt hbW1.out hb2)
    have f0 := bx2.free
    have z0 := bx2.cell (i := 0) rfl
    have z1 := bx2.cell (i := 1) rfl
    have z2 := bx2.cell (i := 2) rfl
    have z3 := bx2.cell (i := 3) rfl
    have bf := Lib.hid (bx2.four (.int .i64 0) (.string ⟨#[]⟩) (.slice none 0 0) (.string ⟨#[]⟩))
    clear hb1 hb2
    go_wp2_with fail
    have q0 := bf.out.cell (i := 0) rfl
    have q1 := bf.out.cell (i := 1) rfl
    have q2 := bf.out.cell (i := 2) rfl
    have q3 := bf.out.cell (i := 3) rfl
    exact bodyPost_ret (v := .tuple #[.agg #[.int .i64 0, .string ⟨#[]⟩, .slice none 0 0, .string ⟨#[]⟩], .int .i64 (s.size : Int)]) (by simp [results, Try.results36, go_sem, q0, q1, q2, q3]) rfl (tokPost_nil (by show _ = ((s.size - 0 : Nat) : Int); omega) (four_below hbW2.out _ _ _ _ (Nat.le_refl _)))
end Go.Proofs.Ytlknmnldblodbaa

/- Package token: a beginning tag. -/
namespace Go.Proofs.Ytlknmnldblodbaa
open Go.RowKit Go.Maps

theorem zeroUnit (w : World) : (zeroValue 74).run Try.prog w = .ok (.agg #[]) w := by kernel_rfl
theorem keyS : Keyed Try.prog 9 := string_keyed Try.underlying9
def keyL (a : Att) : Lit := .string a.name.data.toList
def stoodD (acc : List Att) : DataW Unit := setOf (H := Unit) (.agg []) (acc.map keyL)
theorem keyL_isKey (acc : List Att) : ∀ x ∈ acc.map keyL, WideAt.IsKeyLit x := by
  intro x hx
  obtain ⟨a, _, rfl⟩ := List.mem_map.1 hx
  exact trivial
theorem has_stood (acc : List Att) (nm : ByteArray) : Maps.has (stoodD acc) (.string nm.data.toList) = acc.any fun b => M3.eqB b.name nm := by
  unfold stoodD
  rw [has_setOf _ _ _ (keyL_isKey acc), List.any_map]
  congr 1
  funext b
  show (Lit.string b.name.data.toList).sameKey (.string nm.data.toList) = M3.eqB b.name nm
  unfold M3.eqB
  rw [Lib.toList_data, Lib.toList_data]
  rfl
theorem stood_snoc (acc : List Att) (a : Att) : stoodD (acc ++ [a]) = (stoodD acc).put (.string a.name.data.toList) (.agg []) := by
  unfold stoodD
  rw [List.map_append, List.map_cons, List.map_nil, setOf_snoc]
  rfl
theorem stood_nil : stoodD [] = .map [] := rfl
theorem betw_over : betwB = M5.overB := rfl
theorem own_off {W : World} {B g j : Nat} {e : TypeId} {k n : Nat} {v : Value} {xs : List Value} (h : W.ownsRow B e k v n xs) (hg : ∀ b, v.ownBlock = some b → b ≠ g) (c : Value) : (W.setCell ⟨g, j, none⟩ c).ownsRow B e k v n xs :=
  own_keep5 h fun b hb => Below.heap_setCell W ⟨g, j, none⟩ c b (hg b hb)
def strLen : Value → Nat
  | .string s => s.size
  | _ => 0
theorem attr2 (s : ByteArray) (hs : s.size ≤ 1073741824) : ∀ w, Calls Try.prog 63 #[.string s] w (fun e w' => e = .returned (.tuple #[.agg #[.string (M5.attC s.data.toList).1.name, .string (M5.attC s.data.toList).1.value], .string (M5.bs (M5.attC s.data.toList).2)]) ∧ Below w.heap.size w w') := fun w => tokAttribute s w hs

theorem tokPost_own {t : Tok} {n : Nat} {z : Int} {va : Value} {B : Nat} {w w' : World} (hz : z = (n : Int)) (ho : w'.ownsRow B 44 2 va t.attrs.length (cellsA t.attrs)) (hB : w.heap.size ≤ B) (hb : Below w.heap.size w w') :
    TokPost t n w (.returned (.tuple #[.agg #[.int .i64 t.kind, .string t.name, va, .string t.text], .int .i64 z])) w' := by
  subst hz
  exact ⟨va, rfl, own_le ho hB, hb⟩

set_option maxHeartbeats 8000000 in
set_option maxRecDepth 100000 in
theorem tokBegin (s : ByteArray) (w : World) (hs : s.size ≤ 1073741824) (h1 : 1 ≤ s.size) :
    Calls Try.prog 35 #[.string s] w (TokPost (M5.beginR s.data.toList).1 (s.size - (M5.beginR s.data.toList).2.length) w) := by
  have hx : (s.extract 1 s.size).data.toList = s.data.toList.drop 1 := by rw [dropk_bs, M5.bs_data]
  have hxs : (s.extract 1 s.size).size ≤ 1073741824 := by rw [ByteArray.size_extract]; omega
  have hN := named2 (s.extract 1 s.size) hxs
  rw [hx] at hN
  obtain ⟨nm, hnm⟩ : ∃ x, Hid (x = M5.bs (M1.fold ((s.data.toList.drop 1).takeWhile M5.nameB))) := ⟨_, rfl⟩
  obtain ⟨R0, hR0⟩ : ∃ x, Hid (x = (s.data.toList.drop 1).dropWhile M5.nameB) := ⟨_, rfl⟩
  rw [← hnm.out, ← hR0.out] at hN
  have hR0l : R0.length ≤ s.size := by
    have h2 := ((M5.Suf.dropWhile M5.nameB (s.data.toList.drop 1)).trans (M5.Suf.drop _ _)).le
    rw [← hR0.out] at h2
    exact h2
  have hbe : Hid (M5.beginR s.data.toList = match M5.attsR R0 [] with
      | some (as_, r) => (⟨1, nm, as_, ⟨#[]⟩⟩, r)
      | none => (M5.zero, [])) := by
    show _ = _
    rw [M5.begin_eq, hnm.out, hR0.out]
    try (cases M5.attsR ((s.data.toList.drop 1).dropWhile M5.nameB) [] <;> rfl)
  generalize hP : M5.beginR s.data.toList = P at *
  replace hP := Lib.hid hP
  replace hN := Lib.hid hN
  replace hx := Lib.hid hx
  have hmm := @run_makeMap Try.prog
  obtain ⟨wo, rfl⟩ : ∃ wo : World, wo = w := ⟨_, rfl⟩
  go_enter Try.func35, Try.ntmps35
  go_wp2_with fail
  refine (hN.out _).mono ?_
  rintro e1 w1 ⟨rfl, hb1⟩
  have bz1 := (Box.new wo 31 [.int .i64 0, .string ⟨#[]⟩, .slice none 0 0, .string ⟨#[]⟩]).below hb1 (by simp)
  have b1 : Below wo.heap.size wo w1 := bt ((Below.refl _ wo).alloc (Nat.le_refl _) _) hb1
  have hs1 : wo.heap.size < w1.heap.size := bz1.lt
  go_wp2_with fail
  go_loopw [5] (fun u5 wr => ∃ (R : List UInt8) (acc : List Att) (va : Value) (n : Nat), acc.length + R.length ≤ s.size ∧ u5 = .string (M5.bs R) ∧ n ≤ acc.length ∧ Box wr wo.heap.size 31 [.int .i64 0, .string ⟨#[]⟩, .slice none 0 0, .string ⟨#[]⟩] ∧ Box wr w1.heap.size 31 [.int .i64 1, .string nm, va, .string ⟨#[]⟩] ∧ wr.ownsMap Try.prog 9 (unitElem (H := Unit)) (w1.heap.size + 1) n (stoodD acc) ∧ wr.ownsRow (w1.heap.size + 2) 44 2 va acc.length (cellsA acc) ∧ Below wo.heap.size wo wr ∧ w1.heap.size + 2 ≤ wr.heap.size ∧ Hid (M5.attsR R0 [] = M5.attsR R acc)) (fun u5 _ => strLen u5)
  case atStart =>
    refine ⟨R0, [], .slice none 0 0, 0, by simpa using hR0l, rfl, Nat.le_refl _, (bz1.alloc _).alloc _, (Box.new w1 31 [.int .i64 1, .string nm, .slice none 0 0, .string ⟨#[]⟩]).alloc _, ?_, World.ownsRow_nil _ _ _ _, (b1.alloc (by omega) _).alloc (by simp; omega) _, by simp, Lib.hid rfl⟩
    have := World.ownsMap_made (H := Unit) (w1.alloc (.cells #[.int .i64 1, .string nm, .slice none 0 0, .string ⟨#[]⟩] 31)) Try.prog 9 unitElem
    simpa [stood_nil] using this
  case round =>
    obtain ⟨R, acc, va, n, hal, rfl, hn, bz, bx, hmap, hown, hb, hws, hv⟩ := hrel
    have hRs : (M5.bs R).size ≤ 1073741824 := by rw [bs_size]; omega
    have hT := take2 asksBetween (M5.bs R) hRs
    rw [M5.bs_data] at hT
    obtain ⟨R1, hR1⟩ : ∃ x, Hid (x = R.dropWhile betwB) := ⟨_, rfl⟩
    obtain ⟨x1, hx1⟩ : ∃ x, Hid (x = M5.bs (R.takeWhile betwB)) := ⟨_, rfl⟩
    rw [← hR1.out, ← hx1.out] at hT
    have hR1l : R1.length ≤ R.length := by rw [hR1.out]; exact (List.dropWhile_suffix _).length_le
    have hv1 : Hid (M5.attsR R0 [] = M5.attsR R1 acc) := by show _ = _; rw [hv.out, M5.atts_over, hR1.out]; rfl
    have hhead := M5.over_head R
    rw [← betw_over, ← hR1.out, betw_over] at hhead
    replace hT := Lib.hid hT
    clear hv hx1
    have hRz : (M5.bs R).size = R.length := bs_size R
    obtain ⟨rt, hrt⟩ : ∃ x, Hid (x = M5.bs R) := ⟨_, rfl⟩
    obtain ⟨rt1, hrt1⟩ : ∃ x, Hid (x = M5.bs R1) := ⟨_, rfl⟩
    have hrt1z : rt1.size = R1.length := by rw [hrt1.out, bs_size]
    have hrt1d : Hid (rt1.data.toList = R1) := by show _ = _; rw [hrt1.out, M5.bs_data]
    rw [← hrt.out, ← hrt1.out] at hT
    rw [← hrt.out]
    go_wp2_with fail
    refine (hT.out _).mono ?_
    rintro e1 w2 ⟨rfl, hb2⟩
    have bz2 := bz.below hb2 bz.lt
    have bx2 := bx.below hb2 bx.lt
    have hmap2 := ownsMap_below hmap hb2
    have hown2 := own_below hown hb2
    have hbW2 := Lib.hid (bt hb hb2)
    have hws2 : w1.heap.size + 2 ≤ w2.heap.size := Nat.le_trans hws hb2.size
    have z0 := bz2.cell (i := 0) rfl
    have z1 := bz2.cell (i := 1) rfl
    have z2 := bz2.cell (i := 2) rfl
    have z3 := bz2.cell (i := 3) rfl
    have fz := bz2.free
    clear bz bx hmap hown hb hb2 hws
    cases hc : R1 with
    | nil =>
      have hin : Hid (P = (M5.zero, [])) := by show _ = _; rw [hbe.out, hv1.out, hc, M5.attsR_nil]
      have hem : rt1.toList.isEmpty = true := isEmpty_yes rt1 (by rw [hrt1z, hc]; rfl)
      replace hc := Lib.hid hc
      go_wp2_with fail
      have bf := bz2.four (.int .i64 0) (.string ⟨#[]⟩) (.slice none 0 0) (.string ⟨#[]⟩)
      have q0 := bf.cell (i := 0) rfl
      have q1 := bf.cell (i := 1) rfl
      have q2 := bf.cell (i := 2) rfl
      have q3 := bf.cell (i := 3) rfl
      exact bodyPost_ret (v := .tuple #[.agg #[.int .i64 0, .string ⟨#[]⟩, .slice none 0 0, .string ⟨#[]⟩], .int .i64 (s.size : Int)]) (by simp [results, Try.results35, go_sem, q0, q1, q2, q3]) rfl (by rw [hin.out]; exact tokPost_nil (by show _ = ((s.size - 0 : Nat) : Int); omega) (four_below hbW2.out _ _ _ _ (Nat.le_refl _)))
    | cons c r =>
      have hno : M5.overB c = false := hhead c r hc
      have h1p : 0 < rt1.size := by rw [hrt1z, hc]; simp
      have hem : rt1.toList.isEmpty = false := isEmpty_no rt1 h1p
      have hc0 : rt1[0] = c := by
        have := drop_cons rt1 0 h1p
        rw [List.drop_zero, hrt1d.out, hc] at this
        exact (List.cons.inj this).1.symm
      have hrl : R1.length = r.length + 1 := by rw [hc]; rfl
      by_cases h62 : c = 62
      · have e62 : ((c.toNat : Int) == 62) = true := by rw [h62]; rfl
        have hin : Hid (P = (⟨1, nm, acc, ⟨#[]⟩⟩, r)) := by
          show _ = _
          rw [hbe.out, hv1.out, hc, M5.attsR_cons, if_pos h62]
        obtain ⟨a, cap, rfl⟩ := own_slice5 hown2
        have t0 := bx2.cell (i := 0) rfl
        have t1 := bx2.cell (i := 1) rfl
        have t2 := bx2.cell (i := 2) rfl
        have t3 := bx2.cell (i := 3) rfl
        replace hc := Lib.hid hc
        go_wp2_with fail
        have bf := bz2.four (.int .i64 1) (.string nm) (.slice a acc.length cap) (.string ⟨#[]⟩)
        have q0 := bf.cell (i := 0) rfl
        have q1 := bf.cell (i := 1) rfl
        have q2 := bf.cell (i := 2) rfl
        have q3 := bf.cell (i := 3) rfl
        have ho4 := own_four (g := wo.heap.size) hown2 (by omega) (.int .i64 1) (.string nm) (.slice a acc.length cap) (.string ⟨#[]⟩)
        exact bodyPost_ret (v := .tuple #[.agg #[.int .i64 1, .string nm, .slice a acc.length cap, .string ⟨#[]⟩], .int .i64 ((s.size : Int) - ((r.length : Int) + 1) + 1)]) (by simp [results, Try.results35, go_sem, q0, q1, q2, q3]) rfl (by rw [hin.out]; exact tokPost_own (t := ⟨1, nm, acc, ⟨#[]⟩⟩) (by show _ = ((s.size - r.length : Nat) : Int); omega) ho4 (by omega) (four_below hbW2.out _ _ _ _ (Nat.le_refl _)))
      · have e62 : ((c.toNat : Int) == 62) = false := by rw [show ((c.toNat : Int) == 62) = (c == 62) from (eqI _ 62).symm]; exact beq_eq_false_iff_ne.2 h62
        obtain ⟨at0, R2, hp⟩ : ∃ a r, Hid (M5.attC R1 = (a, r)) := ⟨(M5.attC R1).1, (M5.attC R1).2, rfl⟩
        have hR2 : R2.length < R1.length := by
          have := M5.attC_lt c r hno h62
          rw [← hc, hp.out] at this
          exact this
        have hv2 : Hid (M5.attsR R0 [] = M5.attsR R2 (M5.addT acc at0)) := by
          show _ = _
          rw [hv1.out, hc, M5.atts_one c r acc hno h62, ← hc, hp.out]
        have hA := attr2 rt1 (by omega)
        rw [hrt1d.out, hp.out] at hA
        have hnl : at0.name.size ≤ 1073741824 := by
          have h := M5.attC_name_le R1
          rw [hp.out] at h
          have h : at0.name.size ≤ R1.length := h
          omega
        replace hA := Lib.hid hA
        replace hc := Lib.hid hc
        replace hp := Lib.hid hp
        clear hhead z0 z1 z2 z3 fz
        have bz2' := bz2.alloc (.cells #[.string ⟨#[]⟩, .string ⟨#[]⟩] 44)
        have bx2' := bx2.alloc (.cells #[.string ⟨#[]⟩, .string ⟨#[]⟩] 44)
        have ba2' := Box.new w2 44 [.string ⟨#[]⟩, .string ⟨#[]⟩]
        have hmap2' := hmap2.alloc (.cells #[.string ⟨#[]⟩, .string ⟨#[]⟩] 44)
        have hown2' := hown2.alloc (.cells #[.string ⟨#[]⟩, .string ⟨#[]⟩] 44)
        have hbW2' := hbW2.out.alloc hbW2.out.size (.cells #[.string ⟨#[]⟩, .string ⟨#[]⟩] 44)
        replace hbW2' := Lib.hid hbW2'
        go_wp2_with fail
        refine (hA.out _).mono ?_
        rintro e1 w3 ⟨rfl, hb3⟩
        have bz3 := bz2'.below hb3 bz2'.lt
        have bx3 := bx2'.below hb3 bx2'.lt
        have ba3 := ba2'.below hb3 ba2'.lt
        have hmap3 := ownsMap_below hmap2' hb3
        have hown3 := own_below hown2' hb3
        have hbW3 := Lib.hid (bt hbW2'.out hb3)
        have hz2 := bz2.lt
        have hx2 := bx2.lt
        have hs3 : w2.heap.size + 1 ≤ w3.heap.size := by have := hb3.size; simpa using this
        have y0 := ba3.cell (i := 0) rfl
        have y1 := ba3.cell (i := 1) rfl
        have fy := ba3.free
        have ba4 := Lib.hid (ba3.two (.string at0.name) (.string at0.value))
        have bz4 := Lib.hid ((bz3.far (p := ⟨w2.heap.size, 0, none⟩) (by show wo.heap.size ≠ w2.heap.size; omega) (.string at0.name)).far (p := ⟨w2.heap.size, 1, none⟩) (by show wo.heap.size ≠ w2.heap.size; omega) (.string at0.value))
        have bx4 := Lib.hid ((bx3.far (p := ⟨w2.heap.size, 0, none⟩) (by show w1.heap.size ≠ w2.heap.size; omega) (.string at0.name)).far (p := ⟨w2.heap.size, 1, none⟩) (by show w1.heap.size ≠ w2.heap.size; omega) (.string at0.value))
        have hmap4 := Lib.hid ((hmap3.setCell (a := ⟨w2.heap.size, 0, none⟩) (by show w1.heap.size + 1 ≠ w2.heap.size; omega) (.string at0.name)).setCell (a := ⟨w2.heap.size, 1, none⟩) (by show w1.heap.size + 1 ≠ w2.heap.size; omega) (.string at0.value))
        have hvan : ∀ b, va.ownBlock = some b → b ≠ w2.heap.size := fun b h => by have := (hown2.lt b h).2; omega
        clear hb3 bz2' bx2' ba2' hmap2' hown2'
        have hown4 := Lib.hid (own_off (g := w2.heap.size) (j := 1) (own_off (g := w2.heap.size) (j := 0) hown3 hvan (.string at0.name)) hvan (.string at0.value))
        have hbW4 := Lib.hid (two_below hbW3.out (g := w2.heap.size) (.string at0.name) (.string at0.value) (by omega))
        go_upto_region 11 with fail
        have hz4 : ((w3.setCell ⟨w2.heap.size, 0, none⟩ (.string at0.name)).setCell ⟨w2.heap.size, 1, none⟩ (.string at0.value)).heap.size = w3.heap.size := by simp
        clear bz3 bx3 ba3 hmap3 hown3 hbW3 y0 y1 fy
        generalize (w3.setCell ⟨w2.heap.size, 0, none⟩ (.string at0.name)).setCell ⟨w2.heap.size, 1, none⟩ (.string at0.value) = w4 at *
        have y0 := ba4.out.cell (i := 0) rfl
        have y1 := ba4.out.cell (i := 1) rfl
        have hkey : keyOf Try.prog 9 (.string at0.name) = some (.string at0.name.data.toList) := WideMaps.keyOf_string_mk Try.underlying9 (s := at0.name) (by unfold maxLen; omega)
        have hhas := has_stood acc at0.name
        go_upto_region 12 with (at_lookup; refine wpList_lookup_own_unit _ rfl _ _ 70 rfl 9 74 keyS Try.underlying70 (zeroUnit _) (w1.heap.size + 1) n _ rfl hmap4.out _ _ rfl hkey ?_)
        have hmeas : strLen (.string (M5.bs R2)) < strLen (.string rt) := by
          show (M5.bs R2).size < rt.size
          rw [hrt.out, bs_size, bs_size]
          omega
        have hz4' : w1.heap.size + 2 ≤ w4.heap.size := by omega
        cases hhad : (acc.any fun b => M3.eqB b.name at0.name)
        · have hadd : M5.addT acc at0 = acc ++ [at0] := by rw [M5.addT, hhad]; rfl
          rw [hadd] at hv2
          have hcA : cellsA acc ++ [.string at0.name, .string at0.value] = cellsA (acc ++ [at0]) := by rw [cellsA_append]; rfl
          replace hhas := Lib.hid hhas
          replace hhad := Lib.hid hhad
          replace hcA := Lib.hid hcA
          replace hadd := Lib.hid hadd
          clear y0 y1
          have y0 := (ba4.out.alloc (.cells #[] 74)).cell (i := 0) rfl
          go_upto_region 14 with (at_mapUpdate; refine wpList_mapUpdate_own _ rfl _ _ _ 70 rfl 9 74 keyS Try.underlying70 (unitElem (H := Unit)) (w1.heap.size + 1) n _ rfl (hmap4.out.alloc _) (by unfold maxLen; omega) _ _ _ rfl rfl hkey _ [] unitElem_mk ?_; intro w5 hmap5 hgrow5)
          have ba5 := (ba4.out.alloc (.cells #[] 74)).keep (hgrow5.block _ (ba4.out.alloc _).lt (by intro h; have := Option.some.inj h; omega))
          have bz5 := (bz4.out.alloc (.cells #[] 74)).keep (hgrow5.block _ (bz4.out.alloc _).lt (by intro h; have := Option.some.inj h; omega))
          have bx5 := (bx4.out.alloc (.cells #[] 74)).keep (hgrow5.block _ (bx4.out.alloc _).lt (by intro h; have := Option.some.inj h; omega))
          have hown5 := Lib.hid ((hown4.out.alloc (.cells #[] 74)).kept hgrow5 (Or.inr (fun h => by have := (hown4.out.lt _ h).1; omega)))
          have hbW5 := Lib.hid ((hbW4.out.alloc hbW4.out.size (.cells #[] 74)).grown hgrow5 (by have := hbW4.out.size; simp; omega) (fun k hk => by cases hk; omega))
          have hs5 : w4.heap.size + 1 ≤ w5.heap.size := by have := hgrow5.size; simpa using this
          have y0 := ba5.cell (i := 0) rfl
          have y1 := ba5.cell (i := 1) rfl
          obtain ⟨sa, cap, rfl⟩ := own_slice5 hown4.out
          have x2 := bx5.cell (i := 2) rfl
          replace hmap5 := Lib.hid hmap5
          replace hgrow5 := Lib.hid hgrow5
          go_wp2_with (at_builtin; refine wpList_appOne w5 [.string at0.name, .string at0.value] rfl _ _ 29 44 rfl (w1.heap.size + 2) 2 Try.underlying29 infoA5 rfl (by omega) _ acc.length (cellsA acc) rfl hown5.out (w5.heap.size) rfl (by rfl) rfl (by simp [Value.oneCell']) (by omega) (by omega) (by omega) ?_; intro gg cap' w6 hown6 hgrow6 hat6; have bx6 := bx5.keep (hgrow6.block _ bx5.lt (fun e => by have := (hown5.out.lt _ e.symm).1; omega)); have bz6 := bz5.keep (hgrow6.block _ bz5.lt (fun e => by have := (hown5.out.lt _ e.symm).1; omega)); have c6 := bx6.cell (i := 2) rfl; have f6 := bx6.free 2)
          have hb6 := hbW5.out.grown hgrow6 hbW5.out.size (fun g hg => by have := (hown5.out.lt g hg).1; omega)
          have hb7 : Below wo.heap.size wo (w6.setCell ⟨w1.heap.size, 2, none⟩ (.slice (some ⟨gg, 0, none⟩) (acc.length + 1) cap')) := hb6.setCell (p := ⟨w1.heap.size, 2, none⟩) (by show wo.heap.size ≤ w1.heap.size; omega) _
          have bz7 := bz6.far (p := ⟨w1.heap.size, 2, none⟩) (by show wo.heap.size ≠ w1.heap.size; omega) (.slice (some ⟨gg, 0, none⟩) (acc.length + 1) cap')
          have bx7 := bx6.set 2 (.slice (some ⟨gg, 0, none⟩) (acc.length + 1) cap')
          have hown7 := own_set (g := w1.heap.size) (j := 2) hown6 (by omega) (.slice (some ⟨gg, 0, none⟩) (acc.length + 1) cap')
          have hmap7 := (hmap5.out.kept hgrow6 (fun h => by have := (hown5.out.lt _ h.symm).1; omega)).setCell (a := ⟨w1.heap.size, 2, none⟩) (by show w1.heap.size + 1 ≠ w1.heap.size; omega) (.slice (some ⟨gg, 0, none⟩) (acc.length + 1) cap')
          have hz6 := hgrow6.size
          rw [hcA.out] at hown7
          rw [← stood_snoc] at hmap7
          go_roundw
          case rel => exact ⟨R2, acc ++ [at0], .slice (some ⟨gg, 0, none⟩) (acc.length + 1) cap', n + 1, by rw [List.length_append]; show acc.length + 1 + R2.length ≤ s.size; omega, rfl, by rw [List.length_append]; show n + 1 ≤ acc.length + 1; omega, bz7, bx7, hmap7, by rw [List.length_append]; exact hown7, hb7, by simp; omega, hv2⟩
          case measure => exact hmeas
        · have hadd : M5.addT acc at0 = acc := by rw [M5.addT, hhad]; rfl
          rw [hadd] at hv2
          replace hhas := Lib.hid hhas
          replace hhad := Lib.hid hhad
          go_wp2_with fail
          go_roundw
          case rel => exact ⟨R2, acc, va, n, by omega, rfl, hn, bz4.out.alloc _, bx4.out.alloc _, hmap4.out.alloc _, hown4.out.alloc _, hbW4.out.alloc hbW4.out.size _, by simp; omega, hv2⟩
          case measure => exact hmeas
end Go.Proofs.Ytlknmnldblodbaa

/- Package token: a tag. -/
namespace Go.Proofs.Ytlknmnldblodbaa
open Go.RowKit

/-- What a tag is that no letter begins, in the program's order. -/
theorem tag_code (c d : UInt8) (r : List UInt8) (h : M5.startsB (c :: d :: r) = true) (hd : M5.letterB d = false) : M5.tagR (c :: d :: r) =
    if d = 47 ∧ (r.head?.map M5.letterB) = some true then M5.endR r
    else if [60, 47, 62].isPrefixOf (c :: d :: r) then (M5.zero, (c :: d :: r).drop 3)
    else if [60, 33, 45, 45].isPrefixOf (c :: d :: r) then M5.remarkR [45, 45, 62] ((c :: d :: r).drop 4)
    else M5.remarkR [62] r := by
  rw [tag_else c d r h hd]
  by_cases hA : d = 47 ∧ (r.head?.map M5.letterB) = some true
  · have h1 : [60, 33, 45, 45].isPrefixOf (c :: d :: r) = false := by
      rw [hA.1]
      show (60 == c && (33 == (47 : UInt8) && _)) = false
      rw [show ((33 : UInt8) == 47) = false from by decide, Bool.false_and, Bool.and_false]
    have h2 : [60, 47, 62].isPrefixOf (c :: d :: r) = false := by
      cases r with
      | nil => simp at hA
      | cons e t =>
        have he : M5.letterB e = true := by simpa using hA.2
        have h62 : ((62 : UInt8) == e) = false := by
          rw [beq_eq_false_iff_ne]
          intro x
          subst x
          exact absurd he (by decide)
        show (60 == c && (47 == d && (62 == e && _))) = false
        rw [h62, Bool.false_and, Bool.and_false, Bool.and_false]
    rw [h1, h2, if_neg Bool.false_ne_true, if_neg Bool.false_ne_true, if_pos hA, if_pos hA]
    rfl
  · rw [if_neg hA, if_neg hA]
    by_cases h4 : [60, 33, 45, 45].isPrefixOf (c :: d :: r) = true
    · have h3 : [60, 47, 62].isPrefixOf (c :: d :: r) = false := by
        have : d = 33 := by
          have h4' : (60 == c && (33 == d && [45, 45].isPrefixOf r)) = true := h4
          simp only [Bool.and_eq_true, beq_iff_eq] at h4'
          exact h4'.2.1.symm
        subst this
        show (60 == c && (47 == (33 : UInt8) && _)) = false
        rw [show ((47 : UInt8) == 33) = false from by decide, Bool.false_and, Bool.and_false]
      rw [if_pos h4, h3, if_neg Bool.false_ne_true, if_pos h4]
      rfl
    · rw [if_neg h4, if_neg h4]
      rfl
theorem letter_ask (c : UInt8) : M5.letterB c = askR M5.letterB c.toNat := by
  by_cases hc : c.toNat < 128
  · rw [ask_low _ _ hc]
  · unfold askR
    rw [if_neg hc]
    unfold M5.letterB
    rw [Bool.eq_iff_iff]
    simp
    omega
theorem remark_at (s first last : ByteArray) (k : Nat) (hk : first.size = k) (hs : s.size ≤ 1073741824) (hf : k ≤ s.size) (hl : last.data.toList ≠ []) (P : Tok × List UInt8) (hP : P = M5.remarkR last.data.toList (s.data.toList.drop k)) :
    ∀ w, Glo w → Calls Try.prog 38 #[.string s, .string first, .string last] w (TokPost P.1 (s.size - P.2.length) w) := by
  subst hk hP
  exact fun w hg => tokRemark s first last w hg hs hf hl

set_option maxHeartbeats 8000000 in
set_option maxRecDepth 100000 in
theorem tokTag (s : ByteArray) (w : World) (hg : Glo w) (hs : s.size ≤ 1073741824) : Calls Try.prog 15 #[.string s] w (TokPost (M5.tagR s.data.toList).1 (s.size - (M5.tagR s.data.toList).2.length) w) := by
  have hst := Lib.hid (fun w => tokStarts s w hs)
  obtain ⟨wo, rfl⟩ : ∃ wo : World, wo = w := ⟨_, rfl⟩
  have bx0 := Box.new wo 31 [.int .i64 0, .string ⟨#[]⟩, .slice none 0 0, .string ⟨#[]⟩]
  have hb0 := (Below.refl _ wo).alloc (Nat.le_refl _) (.cells #[.int .i64 0, .string ⟨#[]⟩, .slice none 0 0, .string ⟨#[]⟩] 31)
  have hg0 := Lib.hid (hg.below hb0 (Nat.le_refl _))
  replace hb0 := Lib.hid hb0
  -- a callee's token, put into the result's cell
  have fin : ∀ (t : Tok) (n : Nat) (w2 : World) (va : Value), Below (wo.alloc (.cells #[.int .i64 0, .string ⟨#[]⟩, .slice none 0 0, .string ⟨#[]⟩] 31)).heap.size (wo.alloc (.cells #[.int .i64 0, .string ⟨#[]⟩, .slice none 0 0, .string ⟨#[]⟩] 31)) w2 → w2.ownsRow (wo.alloc (.cells #[.int .i64 0, .string ⟨#[]⟩, .slice none 0 0, .string ⟨#[]⟩] 31)).heap.size 44 2 va t.attrs.length (cellsA t.attrs) →
      Box w2 wo.heap.size 31 [.int .i64 0, .string ⟨#[]⟩, .slice none 0 0, .string ⟨#[]⟩] ∧ (∃ a c, va = .slice a t.attrs.length c) ∧ Hid (Box ((((w2.setCell ⟨wo.heap.size, 0, none⟩ (.int .i64 t.kind)).setCell ⟨wo.heap.size, 1, none⟩ (.string t.name)).setCell ⟨wo.heap.size, 2, none⟩ va).setCell ⟨wo.heap.size, 3, none⟩ (.string t.text)) wo.heap.size 31 [.int .i64 t.kind, .string t.name, va, .string t.text]) ∧
        Hid (TokPost t n wo (.returned (.tuple #[.agg #[.int .i64 t.kind, .string t.name, va, .string t.text], .int .i64 (n : Int)])) ((((w2.setCell ⟨wo.heap.size, 0, none⟩ (.int .i64 t.kind)).setCell ⟨wo.heap.size, 1, none⟩ (.string t.name)).setCell ⟨wo.heap.size, 2, none⟩ va).setCell ⟨wo.heap.size, 3, none⟩ (.string t.text))) := by
    intro t n w2 va hb ho
    have bx2 := bx0.below hb bx0.lt
    refine ⟨bx2, own_slice5 ho, Lib.hid (bx2.four _ _ _ _), Lib.hid (tokPost_own rfl (own_four (g := wo.heap.size) ho (by simp) _ _ _ _) (by simp) (four_below (bt hb0.out hb) _ _ _ _ (Nat.le_refl _)))⟩
  replace fin := Lib.hid fin
  cases hsB : M5.startsB s.data.toList
  · have hP := Lib.hid (tag_no _ hsB)
    generalize M5.tagR s.data.toList = P at *
    have z0 := bx0.cell (i := 0) rfl
    have z1 := bx0.cell (i := 1) rfl
    have z2 := bx0.cell (i := 2) rfl
    have z3 := bx0.cell (i := 3) rfl
    have fz := bx0.free
    go_enter Try.func15, Try.ntmps15
    go_wp2_with (go_at_call 17; refine (hst.out _).mono ?_; rintro e1 w2 ⟨rfl, rfl⟩; rw [hsB])
    exact bodyPost_ret (v := .tuple #[.agg #[.int .i64 0, .string ⟨#[]⟩, .slice none 0 0, .string ⟨#[]⟩], .int .i64 0]) (by simp [results, Try.results15, go_sem, z0, z1, z2, z3]) rfl (by rw [hP.out]; exact tokPost_nil (by rw [List.drop_zero]; show _ = ((s.size - s.data.toList.length : Nat) : Int); rw [show s.data.toList.length = s.size from rfl]; omega) hb0.out)
  · obtain ⟨h2, hl⟩ := two_signs hsB
    have i0 : 0 < s.size := by omega
    have hle : Hid (∀ w, Calls Try.prog 34 #[.int .i32 (wrap32 (s[1].toNat : Int))] w (BoolPost (M5.letterB s[1]) w)) := Lib.hid (fun w => by rw [wrap32_byte, letter_ask]; exact tokLetter s[1].toNat w)
    cases hlt : M5.letterB s[1]
    · have hc := tag_code s[0] s[1] (s.data.toList.drop 2) (by rw [← hl]; exact hsB) hlt
      rw [← hl] at hc
      have e47 : ((s[1].toNat : Int) == 47) = (s[1] == 47) := (eqI _ 47).symm
      have h3 : 2 < s.size → (s.data.toList.drop 2).head? = s[2]? := fun h => by
        rw [drop_cons s 2 h]
        exact (getElem?_pos s 2 h).symm
      by_cases hA : s[1] = 47 ∧ ((s.data.toList.drop 2).head?.map M5.letterB) = some true
      · have h2s : 2 < s.size := by
          rcases Nat.lt_or_ge 2 s.size with h | h
          · exact h
          · have := hA.2
            rw [drop_end s 2 h] at this
            cases this
        have hl2 : M5.letterB s[2] = true := by
          have := hA.2
          rw [drop_cons s 2 h2s] at this
          exact Option.some.inj this
        have hle2 : Hid (∀ w, Calls Try.prog 34 #[.int .i32 (wrap32 (s[2].toNat : Int))] w (BoolPost true w)) := Lib.hid (fun w => by rw [wrap32_byte, ← hl2, letter_ask]; exact tokLetter s[2].toNat w)
        rw [if_pos hA] at hc
        have hE := Lib.hid (fun w => tokEnd s w hs (by omega))
        rw [← hc] at hE
        have hx47 : ((s[1].toNat : Int) == 47) = true := by rw [e47]; exact beq_iff_eq.2 hA.1
        generalize (M5.tagR s.data.toList).1 = t at *
        generalize s.size - (M5.tagR s.data.toList).2.length = n at *
        replace hl := Lib.hid hl
        replace hc := Lib.hid hc
        replace hA := Lib.hid hA
        clear e47 h3
        go_enter Try.func15, Try.ntmps15
        go_wp2_with fail
        refine (hst.out _).mono ?_
        rintro e1 w2 ⟨rfl, rfl⟩
        rw [hsB]
        go_wp2_with fail
        refine (hle.out _).mono ?_
        rintro e1 w2 ⟨rfl, rfl⟩
        rw [hlt]
        go_wp2_with fail
        refine (hle2.out _).mono ?_
        rintro e1 w2 ⟨rfl, rfl⟩
        go_wp2_with fail
        refine (hE.out _).mono ?_
        rintro e1 w2 ⟨va, rfl, hown, hb2⟩
        obtain ⟨bx2, ⟨a2, c2, rfl⟩, bf, hpost⟩ := fin.out t n w2 va hb2 hown
        have z0 := bx2.cell (i := 0) rfl
        have z1 := bx2.cell (i := 1) rfl
        have z2 := bx2.cell (i := 2) rfl
        have z3 := bx2.cell (i := 3) rfl
        have fz := bx2.free
        clear hown hb2
        go_wp2_with fail
        have q0 := bf.out.cell (i := 0) rfl
        have q1 := bf.out.cell (i := 1) rfl
        have q2 := bf.out.cell (i := 2) rfl
        have q3 := bf.out.cell (i := 3) rfl
        exact bodyPost_ret (v := .tuple #[.agg #[.int .i64 t.kind, .string t.name, .slice a2 t.attrs.length c2, .string t.text], .int .i64 (n : Int)]) (by simp [results, Try.results15, go_sem, q0, q1, q2, q3]) rfl hpost.out
      · rw [if_neg hA] at hc
        have hguard : ((s[1] == 47) = false) ∨ ((s[1] == 47) = true ∧ ¬ 2 < s.size) ∨ ((s[1] == 47) = true ∧ ∃ h : 2 < s.size, M5.letterB s[2] = false) := by
          by_cases h1 : s[1] = 47
          · by_cases h2s : 2 < s.size
            · refine .inr (.inr ⟨beq_iff_eq.2 h1, h2s, ?_⟩)
              rcases Bool.eq_false_or_eq_true (M5.letterB s[2]) with h | h
              · exact absurd ⟨h1, by rw [drop_cons s 2 h2s]; exact congrArg some h⟩ hA
              · exact h
            · exact .inr (.inl ⟨beq_iff_eq.2 h1, h2s⟩)
          · exact .inl (beq_eq_false_iff_ne.2 h1)
        rw [← e47] at hguard
        replace hA := Lib.hid hA
        clear h3 e47
        cases hp3 : Lib.hasPrefix s.data.toList [60, 47, 62]
        · rw [show [60, 47, 62].isPrefixOf s.data.toList = false from hp3, if_neg Bool.false_ne_true] at hc
          cases hp4 : Lib.hasPrefix s.data.toList [60, 33, 45, 45]
          · rw [show [60, 33, 45, 45].isPrefixOf s.data.toList = false from hp4, if_neg Bool.false_ne_true] at hc
            have hcall := Lib.hid (remark_at s (s.extract 0 2) ⟨#[62]⟩ 2 (by rw [ByteArray.size_extract]; omega) hs (by omega) (by simp) _ hc)
            generalize (M5.tagR s.data.toList).1 = t at *
            generalize s.size - (M5.tagR s.data.toList).2.length = n at *
            replace hl := Lib.hid hl
            replace hc := Lib.hid hc
            rcases hguard with h47 | ⟨h47, h2n⟩ | ⟨h47, h2s, hl2⟩
            · go_enter Try.func15, Try.ntmps15
              go_wp2_with fail
              refine (hst.out _).mono ?_
              rintro e1 w2 ⟨rfl, rfl⟩
              rw [hsB]
              go_wp2_with fail
              refine (hle.out _).mono ?_
              rintro e1 w2 ⟨rfl, rfl⟩
              rw [hlt]
              go_wp2_with fail
              refine (hasPrefix_any _ _ _).mono ?_
              rintro e1 w2 ⟨rfl, rfl⟩
              rw [hp3]
              go_wp2_with fail
              refine (hasPrefix_any _ _ _).mono ?_
              rintro e1 w2 ⟨rfl, rfl⟩
              rw [hp4]
              go_wp2_with fail
              refine (hcall.out _ hg0.out).mono ?_
              rintro e1 w2 ⟨va, rfl, hown, hb2⟩
              obtain ⟨bx2, ⟨a2, c2, rfl⟩, bf, hpost⟩ := fin.out t n w2 va hb2 hown
              have z0 := bx2.cell (i := 0) rfl
              have z1 := bx2.cell (i := 1) rfl
              have z2 := bx2.cell (i := 2) rfl
              have z3 := bx2.cell (i := 3) rfl
              have fz := bx2.free
              clear hown hb2
              go_wp2_with fail
              have q0 := bf.out.cell (i := 0) rfl
              have q1 := bf.out.cell (i := 1) rfl
              have q2 := bf.out.cell (i := 2) rfl
              have q3 := bf.out.cell (i := 3) rfl
              exact bodyPost_ret (v := .tuple #[.agg #[.int .i64 t.kind, .string t.name, .slice a2 t.attrs.length c2, .string t.text], .int .i64 (n : Int)]) (by simp [results, Try.results15, go_sem, q0, q1, q2, q3]) rfl hpost.out
            · go_enter Try.func15, Try.ntmps15
              go_wp2_with fail
              refine (hst.out _).mono ?_
              rintro e1 w2 ⟨rfl, rfl⟩
              rw [hsB]
              go_wp2_with fail
              refine (hle.out _).mono ?_
              rintro e1 w2 ⟨rfl, rfl⟩
              rw [hlt]
              go_wp2_with fail
              refine (hasPrefix_any _ _ _).mono ?_
              rintro e1 w2 ⟨rfl, rfl⟩
              rw [hp3]
              go_wp2_with fail
              refine (hasPrefix_any _ _ _).mono ?_
              rintro e1 w2 ⟨rfl, rfl⟩
              rw [hp4]
              go_wp2_with fail
              refine (hcall.out _ hg0.out).mono ?_
              rintro e1 w2 ⟨va, rfl, hown, hb2⟩
              obtain ⟨bx2, ⟨a2, c2, rfl⟩, bf, hpost⟩ := fin.out t n w2 va hb2 hown
              have z0 := bx2.cell (i := 0) rfl
              have z1 := bx2.cell (i := 1) rfl
              have z2 := bx2.cell (i := 2) rfl
              have z3 := bx2.cell (i := 3) rfl
              have fz := bx2.free
              clear hown hb2
              go_wp2_with fail
              have q0 := bf.out.cell (i := 0) rfl
              have q1 := bf.out.cell (i := 1) rfl
              have q2 := bf.out.cell (i := 2) rfl
              have q3 := bf.out.cell (i := 3) rfl
              exact bodyPost_ret (v := .tuple #[.agg #[.int .i64 t.kind, .string t.name, .slice a2 t.attrs.length c2, .string t.text], .int .i64 (n : Int)]) (by simp [results, Try.results15, go_sem, q0, q1, q2, q3]) rfl hpost.out
            · have hle2 : Hid (∀ w, Calls Try.prog 34 #[.int .i32 (wrap32 (s[2].toNat : Int))] w (BoolPost false w)) := Lib.hid (fun w => by rw [wrap32_byte, ← hl2, letter_ask]; exact tokLetter s[2].toNat w)
              go_enter Try.func15, Try.ntmps15
              go_wp2_with fail
              refine (hst.out _).mono ?_
              rintro e1 w2 ⟨rfl, rfl⟩
              rw [hsB]
              go_wp2_with fail
              refine (hle.out _).mono ?_
              rintro e1 w2 ⟨rfl, rfl⟩
              rw [hlt]
              go_wp2_with fail
              refine (hle2.out _).mono ?_
              rintro e1 w2 ⟨rfl, rfl⟩
              go_wp2_with fail
              refine (hasPrefix_any _ _ _).mono ?_
              rintro e1 w2 ⟨rfl, rfl⟩
              rw [hp3]
              go_wp2_with fail
              refine (hasPrefix_any _ _ _).mono ?_
              rintro e1 w2 ⟨rfl, rfl⟩
              rw [hp4]
              go_wp2_with fail
              refine (hcall.out _ hg0.out).mono ?_
              rintro e1 w2 ⟨va, rfl, hown, hb2⟩
              obtain ⟨bx2, ⟨a2, c2, rfl⟩, bf, hpost⟩ := fin.out t n w2 va hb2 hown
              have z0 := bx2.cell (i := 0) rfl
              have z1 := bx2.cell (i := 1) rfl
              have z2 := bx2.cell (i := 2) rfl
              have z3 := bx2.cell (i := 3) rfl
              have fz := bx2.free
              clear hown hb2
              go_wp2_with fail
              have q0 := bf.out.cell (i := 0) rfl
              have q1 := bf.out.cell (i := 1) rfl
              have q2 := bf.out.cell (i := 2) rfl
              have q3 := bf.out.cell (i := 3) rfl
              exact bodyPost_ret (v := .tuple #[.agg #[.int .i64 t.kind, .string t.name, .slice a2 t.attrs.length c2, .string t.text], .int .i64 (n : Int)]) (by simp [results, Try.results15, go_sem, q0, q1, q2, q3]) rfl hpost.out
          · rw [show [60, 33, 45, 45].isPrefixOf s.data.toList = true from hp4, if_pos rfl] at hc
            have h4s : 4 ≤ s.size := by
              have h' : [60, 33, 45, 45].isPrefixOf s.data.toList = true := hp4
              have := (List.isPrefixOf_iff_prefix.1 h').length_le
              exact this
            have hcall := Lib.hid (remark_at s ⟨#[60, 33, 45, 45]⟩ ⟨#[45, 45, 62]⟩ 4 rfl hs (by omega) (by simp) _ hc)
            generalize (M5.tagR s.data.toList).1 = t at *
            generalize s.size - (M5.tagR s.data.toList).2.length = n at *
            replace hl := Lib.hid hl
            replace hc := Lib.hid hc
            rcases hguard with h47 | ⟨h47, h2n⟩ | ⟨h47, h2s, hl2⟩
            · go_enter Try.func15, Try.ntmps15
              go_wp2_with fail
              refine (hst.out _).mono ?_
              rintro e1 w2 ⟨rfl, rfl⟩
              rw [hsB]
              go_wp2_with fail
              refine (hle.out _).mono ?_
              rintro e1 w2 ⟨rfl, rfl⟩
              rw [hlt]
              go_wp2_with fail
              refine (hasPrefix_any _ _ _).mono ?_
              rintro e1 w2 ⟨rfl, rfl⟩
              rw [hp3]
              go_wp2_with fail
              refine (hasPrefix_any _ _ _).mono ?_
              rintro e1 w2 ⟨rfl, rfl⟩
              rw [hp4]
              go_wp2_with fail
              refine (hcall.out _ hg0.out).mono ?_
              rintro e1 w2 ⟨va, rfl, hown, hb2⟩
              obtain ⟨bx2, ⟨a2, c2, rfl⟩, bf, hpost⟩ := fin.out t n w2 va hb2 hown
              have z0 := bx2.cell (i := 0) rfl
              have z1 := bx2.cell (i := 1) rfl
              have z2 := bx2.cell (i := 2) rfl
              have z3 := bx2.cell (i := 3) rfl
              have fz := bx2.free
              clear hown hb2
              go_wp2_with fail
              have q0 := bf.out.cell (i := 0) rfl
              have q1 := bf.out.cell (i := 1) rfl
              have q2 := bf.out.cell (i := 2) rfl
              have q3 := bf.out.cell (i := 3) rfl
              exact bodyPost_ret (v := .tuple #[.agg #[.int .i64 t.kind, .string t.name, .slice a2 t.attrs.length c2, .string t.text], .int .i64 (n : Int)]) (by simp [results, Try.results15, go_sem, q0, q1, q2, q3]) rfl hpost.out
            · exact absurd h2n (by omega)
            · have hle2 : Hid (∀ w, Calls Try.prog 34 #[.int .i32 (wrap32 (s[2].toNat : Int))] w (BoolPost false w)) := Lib.hid (fun w => by rw [wrap32_byte, ← hl2, letter_ask]; exact tokLetter s[2].toNat w)
              go_enter Try.func15, Try.ntmps15
              go_wp2_with fail
              refine (hst.out _).mono ?_
              rintro e1 w2 ⟨rfl, rfl⟩
              rw [hsB]
              go_wp2_with fail
              refine (hle.out _).mono ?_
              rintro e1 w2 ⟨rfl, rfl⟩
              rw [hlt]
              go_wp2_with fail
              refine (hle2.out _).mono ?_
              rintro e1 w2 ⟨rfl, rfl⟩
              go_wp2_with fail
              refine (hasPrefix_any _ _ _).mono ?_
              rintro e1 w2 ⟨rfl, rfl⟩
              rw [hp3]
              go_wp2_with fail
              refine (hasPrefix_any _ _ _).mono ?_
              rintro e1 w2 ⟨rfl, rfl⟩
              rw [hp4]
              go_wp2_with fail
              refine (hcall.out _ hg0.out).mono ?_
              rintro e1 w2 ⟨va, rfl, hown, hb2⟩
              obtain ⟨bx2, ⟨a2, c2, rfl⟩, bf, hpost⟩ := fin.out t n w2 va hb2 hown
              have z0 := bx2.cell (i := 0) rfl
              have z1 := bx2.cell (i := 1) rfl
              have z2 := bx2.cell (i := 2) rfl
              have z3 := bx2.cell (i := 3) rfl
              have fz := bx2.free
              clear hown hb2
              go_wp2_with fail
              have q0 := bf.out.cell (i := 0) rfl
              have q1 := bf.out.cell (i := 1) rfl
              have q2 := bf.out.cell (i := 2) rfl
              have q3 := bf.out.cell (i := 3) rfl
              exact bodyPost_ret (v := .tuple #[.agg #[.int .i64 t.kind, .string t.name, .slice a2 t.attrs.length c2, .string t.text], .int .i64 (n : Int)]) (by simp [results, Try.results15, go_sem, q0, q1, q2, q3]) rfl hpost.out
        · rw [show [60, 47, 62].isPrefixOf s.data.toList = true from hp3, if_pos rfl] at hc
          have h3s : 3 ≤ s.size := by
            have h' : [60, 47, 62].isPrefixOf s.data.toList = true := hp3
            have := (List.isPrefixOf_iff_prefix.1 h').length_le
            exact this
          have hz3 : Hid (TokPost (M5.tagR s.data.toList).1 (s.size - (M5.tagR s.data.toList).2.length) wo (.returned (.tuple #[.agg #[.int .i64 0, .string ⟨#[]⟩, .slice none 0 0, .string ⟨#[]⟩], .int .i64 3])) (wo.alloc (.cells #[.int .i64 0, .string ⟨#[]⟩, .slice none 0 0, .string ⟨#[]⟩] 31))) := by
            show TokPost _ _ _ _ _
            rw [hc]
            exact tokPost_nil (by show _ = ((s.size - (s.data.toList.drop 3).length : Nat) : Int); rw [List.length_drop, show s.data.toList.length = s.size from rfl]; omega) hb0.out
          have z0 := bx0.cell (i := 0) rfl
          have z1 := bx0.cell (i := 1) rfl
          have z2 := bx0.cell (i := 2) rfl
          have z3 := bx0.cell (i := 3) rfl
          have fz := bx0.free
          generalize (M5.tagR s.data.toList).1 = t at *
          generalize s.size - (M5.tagR s.data.toList).2.length = n at *
          replace hl := Lib.hid hl
          replace hc := Lib.hid hc
          rcases hguard with h47 | ⟨h47, h2n⟩ | ⟨h47, h2s, hl2⟩
          · go_enter Try.func15, Try.ntmps15
            go_wp2_with fail
            refine (hst.out _).mono ?_
            rintro e1 w2 ⟨rfl, rfl⟩
            rw [hsB]
            go_wp2_with fail
            refine (hle.out _).mono ?_
            rintro e1 w2 ⟨rfl, rfl⟩
            rw [hlt]
            go_wp2_with fail
            refine (hasPrefix_any _ _ _).mono ?_
            rintro e1 w2 ⟨rfl, rfl⟩
            rw [hp3]
            go_wp2_with fail
            exact bodyPost_ret (v := .tuple #[.agg #[.int .i64 0, .string ⟨#[]⟩, .slice none 0 0, .string ⟨#[]⟩], .int .i64 3]) (by simp [results, Try.results15, go_sem, z0, z1, z2, z3]) rfl hz3.out
          · exact absurd h2n (by omega)
          · have hle2 : Hid (∀ w, Calls Try.prog 34 #[.int .i32 (wrap32 (s[2].toNat : Int))] w (BoolPost false w)) := Lib.hid (fun w => by rw [wrap32_byte, ← hl2, letter_ask]; exact tokLetter s[2].toNat w)
            go_enter Try.func15, Try.ntmps15
            go_wp2_with fail
            refine (hst.out _).mono ?_
            rintro e1 w2 ⟨rfl, rfl⟩
            rw [hsB]
            go_wp2_with fail
            refine (hle.out _).mono ?_
            rintro e1 w2 ⟨rfl, rfl⟩
            rw [hlt]
            go_wp2_with fail
            refine (hle2.out _).mono ?_
            rintro e1 w2 ⟨rfl, rfl⟩
            go_wp2_with fail
            refine (hasPrefix_any _ _ _).mono ?_
            rintro e1 w2 ⟨rfl, rfl⟩
            rw [hp3]
            go_wp2_with fail
            exact bodyPost_ret (v := .tuple #[.agg #[.int .i64 0, .string ⟨#[]⟩, .slice none 0 0, .string ⟨#[]⟩], .int .i64 3]) (by simp [results, Try.results15, go_sem, z0, z1, z2, z3]) rfl hz3.out
    · have hP : Hid (M5.tagR s.data.toList = M5.beginR s.data.toList) := by
        show _ = _
        rw [hl] at hsB ⊢
        exact tag_begin _ _ _ hsB hlt
      have hbg := Lib.hid (fun w => tokBegin s w hs (by omega))
      rw [hP.out]
      clear hP
      generalize (M5.beginR s.data.toList).1 = t at *
      generalize s.size - (M5.beginR s.data.toList).2.length = n at *
      replace hl := Lib.hid hl
      go_enter Try.func15, Try.ntmps15
      go_wp2_with (first | (go_at_call 17; refine (hst.out _).mono ?_; rintro e1 w2 ⟨rfl, rfl⟩; rw [hsB]) | (go_at_call 34; refine (hle.out _).mono ?_; rintro e1 w2 ⟨rfl, rfl⟩; rw [hlt]))
      refine (hbg.out _).mono ?_
      rintro e1 w2 ⟨va, rfl, hown, hb2⟩
      obtain ⟨bx2, ⟨a2, c2, rfl⟩, bf, hpost⟩ := fin.out t n w2 va hb2 hown
      have z0 := bx2.cell (i := 0) rfl
      have z1 := bx2.cell (i := 1) rfl
      have z2 := bx2.cell (i := 2) rfl
      have z3 := bx2.cell (i := 3) rfl
      have fz := bx2.free
      clear hown hb2
      go_wp2_with fail
      have q0 := bf.out.cell (i := 0) rfl
      have q1 := bf.out.cell (i := 1) rfl
      have q2 := bf.out.cell (i := 2) rfl
      have q3 := bf.out.cell (i := 3) rfl
      exact bodyPost_ret (v := .tuple #[.agg #[.int .i64 t.kind, .string t.name, .slice a2 t.attrs.length c2, .string t.text], .int .i64 (n : Int)]) (by simp [results, Try.results15, go_sem, q0, q1, q2, q3]) rfl hpost.out
end Go.Proofs.Ytlknmnldblodbaa

/- Tokens by definitions: characters up to the next tag. -/
namespace Go.Proofs.Ytlknmnldblodbaa.M5

def plainN : List UInt8 → Nat
  | [] => 0
  | c :: r => if startsB (c :: r) then 0 else plainN r + 1
theorem plainN_le (l : List UInt8) : plainN l ≤ l.length := by
  induction l with
  | nil => exact Nat.le_refl _
  | cons c r ih => rw [plainN]; split <;> simp; omega
theorem plainN_yes (l : List UInt8) (h : startsB l = true) : plainN l = 0 := by
  cases l with
  | nil => cases h
  | cons c r => rw [plainN, if_pos h]
theorem plainN_skip (n : Nat) : ∀ (l : List UInt8), n ≤ l.length → (∀ k, k < n → startsB (l.drop k) = false) → plainN l = n + plainN (l.drop n) := by
  induction n with
  | zero => intro l _ _; simp
  | succ n ih =>
    intro l h1 h2
    cases l with
    | nil => simp at h1
    | cons c r =>
      have h0 := h2 0 (by omega)
      rw [List.drop_zero] at h0
      rw [plainN, h0, if_neg Bool.false_ne_true, List.drop_succ_cons, ih r (by simpa using h1) (fun k hk => by
        have := h2 (k + 1) (by omega)
        simpa using this)]
      omega
theorem starts_head (l : List UInt8) (h : startsB l = true) : ∃ r, l = 60 :: r := by
  match l with
  | [] => cases h
  | [c] => cases h
  | c :: d :: r =>
    have : (c == 60 && (letterB d || d == 33 || d == 63 || d == 47)) = true := h
    rw [Bool.and_eq_true] at this
    rw [beq_iff_eq.1 this.1]
    exact ⟨_, rfl⟩
/-- What stands ahead of the next tag is passed over at once. -/
theorem toksR_plain (l : List UInt8) : ∀ p, toksR p l = toksR (p ++ l.take (plainN l)) (l.drop (plainN l)) := by
  induction l with
  | nil => intro p; simp [plainN]
  | cons c r ih =>
    intro p
    rw [plainN]
    cases h : startsB (c :: r)
    · rw [if_neg Bool.false_ne_true, toksR_text p c r h, ih, List.take_succ_cons, List.drop_succ_cons, List.append_assoc]
      rfl
    · rw [if_pos rfl]
      simp
theorem plain_starts (l : List UInt8) (h : l.drop (plainN l) ≠ []) : startsB (l.drop (plainN l)) = true := by
  induction l with
  | nil => exact absurd rfl h
  | cons c r ih =>
    cases hs : startsB (c :: r)
    · have e : plainN (c :: r) = plainN r + 1 := by rw [plainN, hs, if_neg Bool.false_ne_true]
      rw [e, List.drop_succ_cons] at h ⊢
      exact ih h
    · rw [plainN_yes _ hs, List.drop_zero, hs]
theorem plain_pos (l : List UInt8) (hl : l ≠ []) (h : startsB l = false) : 0 < plainN l := by
  cases l with
  | nil => exact absurd rfl hl
  | cons c r => rw [plainN, h, if_neg Bool.false_ne_true]; omega
/-- A text's tokens, from its beginning on, as the program takes them: a tag, or characters. -/
theorem toks_step (l : List UInt8) (hl : l ≠ []) (h : startsB l = false) : toksR [] l = ⟨3, ⟨#[]⟩, [], bs (M2.decode (l.take (plainN l)))⟩ :: toksR [] (l.drop (plainN l)) := by
  have hp := plain_pos l hl h
  have hne : l.take (plainN l) ≠ [] := by
    intro e
    have := congrArg List.length e
    rw [List.length_take] at this
    cases l with
    | nil => exact absurd rfl hl
    | cons c r => simp at this; omega
  have hch : charsT (l.take (plainN l)) = [⟨3, ⟨#[]⟩, [], bs (M2.decode (l.take (plainN l)))⟩] := by
    rw [charsT, if_neg]
    rw [Bool.not_eq_true, List.isEmpty_eq_false_iff]
    exact hne
  rw [toksR_plain l [], List.nil_append]
  by_cases hd : l.drop (plainN l) = []
  · rw [hd, toksR_nil, toksR_nil, hch]
    rfl
  · have hs := plain_starts l hd
    rw [toksR_tag _ _ hs, toksR_tag [] _ hs, hch]
    rfl
theorem toks_tag (l : List UInt8) (h : startsB l = true) :
    toksR [] l = (if (tagR l).1.kind ≠ 0 then [(tagR l).1] else []) ++ ((rawT (tagR l).1 (tagR l).2).1 ++ toksR [] (rawT (tagR l).1 (tagR l).2).2) := by
  rw [toksR_tag [] l h]
  rfl
def charsC (l : List UInt8) : Tok := ⟨3, ⟨#[]⟩, [], bs (M2.decode (l.take (plainN l)))⟩
def contC (n : Nat) (l : List UInt8) : Tok := if n = 0 then zero else ⟨3, ⟨#[]⟩, [], bs (l.take n)⟩
end Go.Proofs.Ytlknmnldblodbaa.M5

/- Package token: characters up to the next tag. -/
namespace Go.Proofs.Ytlknmnldblodbaa
open Go.RowKit

/-- A rune's bytes begin no tag but at the first one, and that only at '<'. -/
theorem rune_plain (l : List UInt8) (hl : l ≠ []) :
    ((M1.dec l).1 ≠ 60 → M5.plainN l = (M1.dec l).2 + M5.plainN (l.drop (M1.dec l).2)) ∧ ((M1.dec l).1 = 60 → (M1.dec l).2 = 1) := by
  obtain ⟨c, r, rfl⟩ := List.exists_cons_of_ne_nil hl
  have hle := M1.dec_le (c :: r) hl
  by_cases h : c.toNat < 128
  · have e := dec_low _ c r rfl h
    rw [e]
    refine ⟨fun hc => ?_, fun _ => rfl⟩
    refine M5.plainN_skip 1 _ (by simp) (fun k hk => ?_)
    obtain rfl : k = 0 := by omega
    rw [List.drop_zero]
    cases hs : M5.startsB (c :: r)
    · rfl
    · obtain ⟨t, ht⟩ := M5.starts_head _ hs
      have : c = 60 := (List.cons.inj ht).1
      subst this
      exact absurd rfl hc
  · obtain ⟨h1, h2⟩ := dec_high (c :: r) c r rfl (by omega)
    refine ⟨fun _ => ?_, fun hc => by omega⟩
    refine M5.plainN_skip _ _ hle (fun k hk => ?_)
    cases hs : M5.startsB ((c :: r).drop k)
    · rfl
    · obtain ⟨t, ht⟩ := M5.starts_head _ hs
      have hk2 : k < (c :: r).length := by omega
      rw [List.drop_eq_getElem_cons hk2] at ht
      have h3 := h2 k hk hk2
      rw [(List.cons.inj ht).1] at h3
      exact absurd h3 (by decide)

set_option maxHeartbeats 2000000 in
set_option maxRecDepth 100000 in
theorem tokPlain (s : ByteArray) (w : World) (hs : s.size ≤ 1073741824) :
    Calls Try.prog 56 #[.string s] w fun e w' => e = .returned (.int .i64 (M5.plainN s.data.toList : Int)) ∧ Below w.heap.size w w' := by
  obtain ⟨N, hN⟩ : ∃ N, Hid (N = M5.plainN s.data.toList) := ⟨_, rfl⟩
  rw [← hN.out]
  obtain ⟨wo, rfl⟩ : ∃ wo : World, wo = w := ⟨_, rfl⟩
  go_enter Try.func56, Try.ntmps56
  go_wp2_with fail
  go_loopw [] (fun wr => ∃ pos : Nat, pos ≤ s.size ∧ wr.heap[wo.heap.size]? = some (.stringIter s pos) ∧ Below wo.heap.size wo wr ∧ Hid (N = pos + M5.plainN (s.data.toList.drop pos))) (fun wr => s.size - wr.iterPos wo.heap.size)
  case atStart => exact ⟨0, by omega, World.iter_heap wo s 0, (Below.refl _ wo).alloc (Nat.le_refl _) _, by show _ = _; rw [hN.out]; simp⟩
  case round =>
    obtain ⟨pos, hpl, hit, hbw, hv⟩ := hrel
    have hsz : wo.heap.size < wr.heap.size := (Array.getElem?_eq_some_iff.1 hit).1
    by_cases hp : pos < s.size
    · have hp' : pos < s.data.toList.length := hp
      have hne := drop_ne hp'
      have hnx := next_dec (P := Try.prog) wr wo.heap.size s pos hit hp
      have hst0 := rune_plain _ hne
      have hw1 := M1.dec_pos _ hne
      have hw2 := M1.dec_le _ hne
      have hlt := M1.dec_lt (s.data.toList.drop pos)
      rw [List.drop_drop] at hst0
      rw [List.length_drop, show s.data.toList.length = s.size from rfl] at hw2
      have hbw1 := Lib.below_iterAt hbw (Nat.le_refl _) s (pos + (M1.dec (s.data.toList.drop pos)).2)
      have hit1 := Lib.iterAt_heap wr wo.heap.size s pos (pos + (M1.dec (s.data.toList.drop pos)).2) hit
      have hS := fun w => tokStarts (s.extract pos s.size) w (by rw [ByteArray.size_extract]; omega)
      rw [dropk_bs, M5.bs_data] at hS
      have hx : Hid (s.extract pos s.size = M5.bs (s.data.toList.drop pos)) := Lib.hid (dropk_bs s pos)
      generalize (M1.dec (s.data.toList.drop pos)).1 = r at *
      generalize (M1.dec (s.data.toList.drop pos)).2 = wd at *
      generalize wr.iterAt wo.heap.size s (pos + wd) = w1 at *
      have hst := Lib.hid hst0
      clear hst0 hne hbw
      replace hS := Lib.hid hS
      by_cases h60 : r = 60
      · have e60 : ((r : Int) == 60) = true := by rw [h60]; rfl
        obtain rfl : wd = 1 := hst.out.2 h60
        cases hb : M5.startsB (s.data.toList.drop pos)
        · have hv2 : Hid (N = pos + 1 + M5.plainN (s.data.toList.drop (pos + 1))) := by
            show _ = _
            rw [hv.out]
            rw [drop_cons s pos hp] at hb ⊢
            rw [M5.plainN, hb, if_neg Bool.false_ne_true]
            omega
          go_wp2_with fail
          rw [hx.out]
          refine (hS.out _).mono ?_
          rintro e1 w2 ⟨rfl, rfl⟩
          rw [hb]
          go_wp2_with fail
          go_roundw
          case rel => exact ⟨pos + 1, by omega, hit1, hbw1, hv2⟩
          case measure => rw [iterPos_of hit1, iterPos_of hit]; omega
        · have hk : N = pos := by rw [hv.out, M5.plainN_yes _ hb]; rfl
          go_wp2_with fail
          rw [hx.out]
          refine (hS.out _).mono ?_
          rintro e1 w2 ⟨rfl, rfl⟩
          rw [hb]
          go_wp2_with fail
          go_ret
          exact ⟨by rw [hk]; rfl, hbw1⟩
      · have e60 : ((r : Int) == 60) = false := by rw [beq_eq_false_iff_ne]; omega
        have hv2 : Hid (N = pos + wd + M5.plainN (s.data.toList.drop (pos + wd))) := by show _ = _; rw [hv.out, hst.out.1 h60]; omega
        go_wp2_with fail
        go_roundw
        case rel => exact ⟨pos + wd, by omega, hit1, hbw1, hv2⟩
        case measure => rw [iterPos_of hit1, iterPos_of hit]; omega
    · have hnx := fun ty => Lib.run_next_end_at (P := Try.prog) wr wo.heap.size s pos ty hit hp
      have hk : N = s.size := by rw [hv.out, drop_end s pos (by omega)]; show pos + 0 = _; omega
      go_wp2_with fail
      go_ret
      exact ⟨by rw [hk]; rfl, hbw⟩

set_option maxHeartbeats 2000000 in
set_option maxRecDepth 100000 in
theorem tokChars (s : ByteArray) (w : World) (hs : s.size ≤ 1073741824) : Calls Try.prog 30 #[.string s] w (TokPost (M5.charsC s.data.toList) (M5.plainN s.data.toList) w) := by
  have hP := Lib.hid (fun w => tokPlain s w hs)
  have hle : M5.plainN s.data.toList ≤ s.size := M5.plainN_le _
  have hD := fun w => refsDecode (s.extract 0 (M5.plainN s.data.toList)) w (by rw [ByteArray.size_extract]; omega)
  unfold M5.charsC
  obtain ⟨dv, hdv⟩ : ∃ x, Hid (x = M5.bs (M2.decode (s.data.toList.take (M5.plainN s.data.toList)))) := ⟨_, rfl⟩
  have hD1 : Gives1 57 #[.string (s.extract 0 (M5.plainN s.data.toList))] dv := fun w => (hD w).mono (by
    rintro e w' ⟨rfl, hb⟩
    refine ⟨?_, hb⟩
    rw [hdv.out, Lib.extract_data, List.drop_zero, Nat.sub_zero]
    rfl)
  rw [← hdv.out]
  clear hD
  generalize M5.plainN s.data.toList = N at *
  replace hD1 := Lib.hid hD1
  obtain ⟨wo, rfl⟩ : ∃ wo : World, wo = w := ⟨_, rfl⟩
  have bx0 := Box.new wo 31 [.int .i64 0, .string ⟨#[]⟩, .slice none 0 0, .string ⟨#[]⟩]
  have hb0 := Lib.hid ((Below.refl _ wo).alloc (Nat.le_refl _) (.cells #[.int .i64 0, .string ⟨#[]⟩, .slice none 0 0, .string ⟨#[]⟩] 31))
  go_enter Try.func30, Try.ntmps30
  go_wp2_with fail
  refine (hP.out _).mono ?_
  rintro e1 w1 ⟨rfl, hb1⟩
  have bx1 := bx0.below hb1 bx0.lt
  have hbW1 := Lib.hid (bt hb0.out hb1)
  go_wp2_with fail
  refine (hD1.out _).mono ?_
  rintro e1 w2 ⟨rfl, hb2⟩
  have bx2 := bx1.below hb2 bx1.lt
  have hbW2 := Lib.hid (bt hbW1.out hb2)
  have z0 := bx2.cell (i := 0) rfl
  have z1 := bx2.cell (i := 1) rfl
  have z2 := bx2.cell (i := 2) rfl
  have z3 := bx2.cell (i := 3) rfl
  have fz := bx2.free
  have bf := Lib.hid (bx2.four (.int .i64 3) (.string ⟨#[]⟩) (.slice none 0 0) (.string dv))
  clear hb1 hb2
  go_wp2_with fail
  have q0 := bf.out.cell (i := 0) rfl
  have q1 := bf.out.cell (i := 1) rfl
  have q2 := bf.out.cell (i := 2) rfl
  have q3 := bf.out.cell (i := 3) rfl
  exact bodyPost_ret (v := .tuple #[.agg #[.int .i64 3, .string ⟨#[]⟩, .slice none 0 0, .string dv], .int .i64 (N : Int)]) (by simp [results, Try.results30, go_sem, q0, q1, q2, q3]) rfl (tokPost_nil rfl (four_below hbW2.out _ _ _ _ (Nat.le_refl _)))
end Go.Proofs.Ytlknmnldblodbaa
