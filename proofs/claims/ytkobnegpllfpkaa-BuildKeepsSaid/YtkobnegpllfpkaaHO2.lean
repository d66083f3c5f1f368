/- Texts joined: Spoil, Law07k. -/
import Derived.Test.YtkobnegpllfpkaaH1
import Derived.Test.YtkobnegpllfpkaaH2
import Derived.Test.YtkobnegpllfpkaaH3
import Derived.Test.YtkobnegpllfpkaaH4
import Derived.Test.YtkobnegpllfpkaaH5
import Derived.Test.YtkobnegpllfpkaaH6
import Derived.Test.YtkobnegpllfpkaaH7
import Derived.Test.YtkobnegpllfpkaaHMath7c
import Derived.Test.YtkobnegpllfpkaaHLaw07s
import Derived.Test.YtkobnegpllfpkaaHO1
/- The statements of layer 3: nodes are turned, with all that stands in them; nothing else is. -/
namespace Go.Proofs.Ytkobnegpllfpkaa
open Go.RowKit

/-- Nothing but blocks of F has changed, none is new. -/
structure Spoilt (F : List Nat) (w w' : World) : Prop where
  os : w'.os = w.os
  tape : w'.tape = w.tape
  output : w'.output = w.output
  size : w'.heap.size = w.heap.size
  block : ∀ b, b ∉ F → w'.heap[b]? = w.heap[b]?
theorem Spoilt.refl (F : List Nat) (w : World) : Spoilt F w w := ⟨rfl, rfl, rfl, rfl, fun _ _ => rfl⟩
theorem Spoilt.trans {F : List Nat} {w w1 w2 : World} (h : Spoilt F w w1) (k : Spoilt F w1 w2) : Spoilt F w w2 :=
  ⟨k.os.trans h.os, k.tape.trans h.tape, k.output.trans h.output, k.size.trans h.size, fun b hb => (k.block b hb).trans (h.block b hb)⟩
theorem Spoilt.mono {F G : List Nat} {w w1 : World} (h : Spoilt F w w1) (hs : ∀ b ∈ F, b ∈ G) : Spoilt G w w1 := ⟨h.os, h.tape, h.output, h.size, fun b hb => h.block b (fun e => hb (hs b e))⟩
theorem Spoilt.set (w : World) (g i : Nat) (u : Value) : Spoilt [g] w (w.setCell ⟨g, i, none⟩ u) :=
  ⟨by simp [World.setCell], by simp [World.setCell], by simp [World.setCell], by simp [World.setCell], fun b hb => Below.heap_setCell _ _ _ _ (by simp at hb; simpa using hb)⟩
theorem Spoilt.below {F : List Nat} {w w1 : World} {B : Nat} (h : Spoilt F w w1) (hB : ∀ b ∈ F, B ≤ b) : Below B w w1 := ⟨h.os, h.tape, h.output, by rw [h.size]; exact Nat.le_refl _, fun b hb => h.block b (fun e => by have := hB b e; omega)⟩
theorem Spoilt.own {F : List Nat} {w w1 : World} {B : Nat} {e : TypeId} {k n : Nat} {v : Value} {xs : List Value} (h : Spoilt F w w1) (ho : w.ownsRow B e k v n xs) (hn : ∀ g, v.ownBlock = some g → g ∉ F) : w1.ownsRow B e k v n xs :=
  own_keep ho (fun g hg => h.block g (hn g hg))
def SpoilPost (F : List Nat) (w : World) (e : Ending) (w' : World) : Prop := e = .returned (.tuple #[]) ∧ Spoilt F w w'


end Go.Proofs.Ytkobnegpllfpkaa

/- Layer 7's statements: BuildKeeps. -/
namespace Go.Proofs.Ytkobnegpllfpkaa
open Go.RowKit Go.Maps

theorem RepT.take {S : Nat → Prop} {w : World} (l : List Tok) : ∀ (xs : List Value) (i : Nat), RepT S w xs l → RepT S w (xs.take (i * 4)) (l.take i) := by
  induction l with
  | nil =>
    intro xs i h
    have h : xs = [] := h
    subst h
    rw [List.take_nil, List.take_nil]
    rfl
  | cons t r ih =>
    intro xs i h
    cases i with
    | zero => rw [Nat.zero_mul, List.take_zero, List.take_zero]; rfl
    | succ i =>
      obtain ⟨va, ys, h1, h2, h3⟩ := h
      subst h1
      refine ⟨va, ys.take (i * 4), ?_, h2, ih ys i h3⟩
      rw [List.take_append, Tok.cells_len, show (i + 1) * 4 - 4 = i * 4 by omega, List.take_of_length_le (by rw [Tok.cells_len]; omega)]
theorem TokR.take {S : Nat → Prop} {w : World} {a : Option Addr} {n cap : Nat} {l : List Tok} (h : TokR S w (.slice a n cap) l) (i : Nat) (hi : i ≤ l.length) : TokR S w (.slice a i cap) (l.take i) := by
  obtain ⟨xs, ⟨h0, a', cap', h1, h2, h3, h4, h5⟩, h6⟩ := h
  simp only [Value.slice.injEq] at h1
  obtain ⟨rfl, rfl, rfl⟩ := h1
  have hl : (l.take i).length = i := by rw [List.length_take, Nat.min_eq_left hi]
  refine ⟨xs.take (i * 4), ⟨by rw [List.length_take, hl]; omega, a, cap, by rw [hl], by omega, h3, h4, fun hp => ?_⟩, RepT.take _ _ i h6⟩
  obtain ⟨b, off, e, hb, hx⟩ := h5 (by omega)
  refine ⟨b, off, e, hb, fun j u hu => hx j u ?_⟩
  rw [List.getElem?_take] at hu
  split at hu
  · exact hu
  · cases hu

theorem BS.keep {F : Nat → Prop} {w w' : World} {g mb q : Nat} {s : M7.St} (h : BS F w g mb s q) (hlt : ∀ b, F b → b < w'.heap.size) (hk : ∀ b, F b → w'.heap[b]? = w.heap[b]?) : BS F w' g mb s q := by
  obtain ⟨vo, vt, pt, fs, tx, n, D, h1, h2⟩ := h
  exact ⟨vo, vt, pt, fs, tx, n, D, h1.keep (fun _ h => h) hlt hk, h2⟩
/-- What is told may be turned: the builder stays. -/
theorem LB.nodes2 {w wr : World} {g mb q : Nat} {s : M7.St} (h : LB w wr g mb s q) (hq : q ≤ 100) :
    Calls Try.prog 16 #[.pointer (some ⟨g, 0, none⟩)] wr fun e W' => ∃ v, e = .returned v ∧ Fresh W' wr.heap.size v s.L ∧ ∀ W2, Below wr.heap.size W' W2 → LB w W2 g mb s q := by
  obtain ⟨⟨F, hB, hF⟩, hb⟩ := h
  have hlt := hB.lt
  refine (bNodes hB hq).mono ?_
  rintro e w' ⟨v, rfl, h1, h2, h3⟩
  refine ⟨v, rfl, h1, fun W2 h4 => ⟨⟨F, h2.keep (fun b hb' => ?_) (fun b hb' => h4.block b (hlt b hb')), hF⟩, (Out.low hb h3 hF).trans (h4.mono hb.size)⟩⟩
  have := hlt b hb'
  have := h3.size
  have := h4.size
  omega
theorem sz_take {l : List Tok} (h : FitL l) (i : Nat) : FitL (l.take i) := ⟨by rw [List.length_take]; have := h.1; omega, fun t ht => h.2 t (List.mem_of_mem_take ht)⟩

set_option maxHeartbeats 16000000 in
set_option maxRecDepth 100000 in
theorem law07BuildKeeps (S : Nat → Prop) (v : Value) (l : List Tok) (w : World) (hS : ∀ b, S b → b < w.heap.size) (hr : TokR S w v l) (hsz : SzT l) :
    Calls Try.prog 6 #[v] w fun e w' => e = .returned (.bool true) ∧ Below w.heap.size w w' := by
  have hC := Lib.hid (ref07Cut S v l w hS hr hsz)
  have hft0 := cut_fit7 hsz
  have hws0 := cut_tokW l
  have hts0 := cut_text7 l
  obtain ⟨wo, rfl⟩ : ∃ wo : World, wo = w := ⟨_, rfl⟩
  go_enter Try.func6, Try.ntmps6
  go_upto_region 2 with (go_at_call 9; refine hC.out.mono ?_; rintro e w1 ⟨v1, rfl, hT0, hb1⟩)
  replace hT0 := TokR.of hT0
  have hz1 := hb1.size
  generalize M7.cutT l = c0 at *
  obtain ⟨a1, k1, rfl⟩ := hT0.slice
  have hc0 : c0.length ≤ 90 := hft0.1
  have hk1 : c0.length ≤ k1 ∧ (a1 = none → c0.length = 0) := by
    obtain ⟨xs, ⟨_, a', c', e, h2, h3, h4, _⟩, _⟩ := hT0
    simp only [Value.slice.injEq] at e
    obtain ⟨rfl, -, rfl⟩ := e
    exact ⟨h2, fun h => by have := h4 h; omega⟩
  have hT : TokR (fun b => wo.heap.size ≤ b ∧ b < w1.heap.size) w1 (.slice a1 (c0.take 20).length k1) (c0.take 20) := by
    by_cases h : 20 < c0.length
    · have h2 := hT0.take 20 (by omega)
      rwa [show (c0.take 20).length = 20 by rw [List.length_take]; omega]
    · rw [List.take_of_length_le (by omega)]; exact hT0
  have hft := Lib.hid (sz_take hft0 20)
  have hw : Hid (M3.weight (M7.tree (c0.take 20)) ≤ 240) := Nat.le_trans (M7.weight_run _) (Nat.le_trans (sum_take_le M7.tokW c0 20) hws0)
  have hws : Hid (((c0.take 20).map M7.tokW).sum ≤ 240) := Nat.le_trans (sum_take_le M7.tokW c0 20) hws0
  have hts : Hid (((c0.take 20).map fun t => t.text.size).sum ≤ 1200) := Nat.le_trans (sum_take_le (fun t : Tok => t.text.size) c0 20) hts0
  have hwi : Hid (∀ i, M3.weight (M7.run ((c0.take 20).take i)).L ≤ 240) := fun i => Nat.le_trans (M7.weight_run _) (Nat.le_trans (sum_take_le M7.tokW _ i) hws.out)
  replace hT := Lib.hid hT
  clear hC hT0 hft0 hws0 hts0
  go_cut [12] from 10 to 12 (fun s12 wx => s12 = .bool (decide ((20 : Int) < (c0.length : Int))) ∧ w1 = wx)
  case first =>
    go_wp2_with fail
    go_meet
    case rel => exact ⟨rfl, rfl⟩
  case rest =>
  obtain ⟨rfl, rfl⟩ := hcut
  rename ∀ (a : Act) (w : World), Code.wp _ _ _ a w → _ => hK
  refine hK _ _ ?_
  clear hK
  go_cut [0] from 12 to 14 (fun s0 wx => s0 = .slice a1 (c0.take 20).length k1 ∧ w1 = wx)
  case first =>
    by_cases h : 20 < c0.length
    · have hlen : (c0.take 20).length = 20 := by rw [List.length_take]; omega
      cases a1 with
      | none => exact absurd (hk1.2 rfl) (by omega)
      | some pA =>
        have h20 : decide ((20 : Int) < (c0.length : Int)) = true := decide_eq_true (by omega)
        have h21 : (20 : Int) ≤ (k1 : Int) := by omega
        rw [h20]
        go_wp2_with fail
        go_meet
        case rel => exact ⟨by rw [hlen], rfl⟩
    · have h20 : decide ((20 : Int) < (c0.length : Int)) = false := decide_eq_false (by omega)
      rw [h20]
      go_wp2_with fail
      go_meet
      case rel => exact ⟨by rw [List.take_of_length_le (by omega)], rfl⟩
  case rest =>
    obtain ⟨rfl, rfl⟩ := hcut
    have hcl : (c0.take 20).length ≤ 20 := by rw [List.length_take]; omega
    generalize c0.take 20 = c at *
    clear hk1
    go_wp2_with fail
    refine (LB.new _).mono ?_
    rintro e w2 ⟨g, mb, rfl, hLB⟩
    have hbN := hLB.2
    have hz12 := hbN.size
    replace hLB := Lib.hid hLB
    go_wp2_with fail
    go_loopw [4] (fun u4 wr => ∃ i : Nat, i ≤ c.length ∧ u4 = .int .i64 (i : Int) ∧ Hid (LB w1 wr g mb (M7.run (c.take i)) i)) (fun u4 _ => c.length - (intOf u4).toNat)
    case atStart => exact ⟨0, by omega, rfl, hLB⟩
    case round =>
      obtain ⟨i, hi, rfl, hL⟩ := hrel
      clear hLB
      have hbr := hL.out.2
      have hzr := hbr.size
      by_cases hlt : i < c.length
      · obtain ⟨b, off, va, rfl, hSb, hat, q0, q1, q2, q3⟩ := (hT.out.keep (w' := wr) (fun b hb' => hbr.block b hb'.2)).at_ i hlt
        obtain ⟨hfi, hkw⟩ := hft.out.2 _ (List.getElem_mem hlt)
        have htk : M7.run (c.take (i + 1)) = M7.step (M7.run (c.take i)) c[i] := by
          rw [List.take_succ_eq_append_getElem hlt, M7.run_snoc]
        have hwn := hwi.out (i + 1)
        generalize c[i] = tk at *
        obtain ⟨av, cv, rfl⟩ := hat.slice
        have hP := Lib.hid (LB.put (S := fun b => wo.heap.size ≤ b ∧ b < w1.heap.size) (tk := tk) (va := .slice av tk.attrs.length cv) hL.out (by omega) hfi hkw (fun b h => h.2) hat)
        rw [← htk] at hP
        generalize hse : M7.run (c.take (i + 1)) = s at *
        replace htk := Lib.hid htk
        replace hse := Lib.hid hse
        clear hL hat hfi hkw
        go_wp2_with fail
        refine hP.out.mono ?_
        rintro e w3 ⟨rfl, hL3⟩
        have hb3 := hL3.2
        have hN := Lib.hid (hL3.nodes2 (by omega))
        clear hL3 hP q0 q1 q2 q3
        go_wp2_with fail
        refine hN.out.mono ?_
        rintro e w4 ⟨v4, rfl, ⟨zs, F, hown, hoc, hsp⟩, hL4⟩
        replace hL4 := Lib.hid hL4
        obtain ⟨hnd, hspan⟩ := hsp
        replace hspan := Lib.hid hspan
        have hown := own_base (B' := 0) hown (fun _ _ => Nat.zero_le _)
        generalize hLs : s.L = L at *
        obtain ⟨a4, k4, rfl⟩ := own_slice hown
        have hll := M3.length_le_weight L
        have hoc0 : OwnC w4 (zs.drop (0 * 5)) (L.drop 0) F := by simpa using hoc
        clear hN
        go_wp2_with fail
        go_loopw [6] (fun u6 wr => ∃ (j : Nat) (zr : List Value) (G : List Nat), j ≤ L.length ∧ u6 = .int .i64 (j : Int) ∧ wr.ownsRow 0 45 5 (.slice a4 L.length k4) L.length zr ∧ OwnC wr (zr.drop (j * 5)) (L.drop j) G ∧ (∀ b ∈ G, b ∈ F) ∧ ((Value.slice a4 L.length k4).ownBlock.toList ++ G).Nodup ∧ Spoilt ((Value.slice a4 L.length k4).ownBlock.toList ++ F) w4 wr) (fun u6 _ => L.length - (intOf u6).toNat)
        case atStart => exact ⟨0, zs, F, by omega, rfl, hown, hoc0, fun _ h => h, hnd, Spoilt.refl _ _⟩
        case round =>
          obtain ⟨j, zr, G, hj, rfl, hownr, hocr, hGF, hndG, hsp⟩ := hrel
          clear hown hoc hoc0 hnd
          by_cases hjl : j < L.length
          · obtain ⟨gn, cap', ha, hg0, hgl⟩ := hownr.form (by omega)
            cases ha
            have hdr : L.drop j = L[j] :: L.drop (j + 1) := List.drop_eq_getElem_cons hjl
            rw [hdr] at hocr
            have hmem := weight_le (List.getElem_mem hjl)
            generalize L[j] = x at *
            obtain ⟨va, vk, z2, ys, F1, F2, hz, ova, ovk, rfl, oc1, oc2⟩ := OwnC.cons_iff.1 hocr
            have hzr : zr = zr.take (j * 5) ++ x.cells va vk ++ ys := by rw [List.append_assoc, ← hz, List.take_append_drop]
            have hlt5 : (zr.take (j * 5)).length = j * 5 := by rw [List.length_take]; have := hownr.1; omega
            generalize zr.take (j * 5) = za at *
            subst hzr
            clear hz hocr oc1
            obtain ⟨a1', e1, rfl⟩ := own_slice ova
            obtain ⟨a2', e2, rfl⟩ := own_slice ovk
            have hcell : ∀ r u, (x.cells (.slice a1' x.attrs.length e1) (.slice a2' x.kids.length e2))[r]? = some u → (za ++ x.cells (.slice a1' x.attrs.length e1) (.slice a2' x.kids.length e2) ++ ys)[j * 5 + r]? = some u := by
              intro r u hu
              have hr' := (List.getElem?_eq_some_iff.1 hu).1
              rw [List.append_assoc, List.getElem?_append_right (by omega), hlt5, show j * 5 + r - j * 5 = r by omega, List.getElem?_append_left hr']
              exact hu
            obtain ⟨y3, q3⟩ := own_cell hownr _ _ (hcell 3 _ rfl)
            have hst1 := (hownr.stored (j * 5 + 3) (.string ⟨#[115, 112, 111, 105, 108, 101, 100]⟩)).1
            have hset1 : (za ++ x.cells (.slice a1' x.attrs.length e1) (.slice a2' x.kids.length e2) ++ ys).set (j * 5 + 3) (.string ⟨#[115, 112, 111, 105, 108, 101, 100]⟩) = za ++ [.int .i64 x.kind, .string x.name, .slice a1' x.attrs.length e1, (.string ⟨#[115, 112, 111, 105, 108, 101, 100]⟩), .slice a2' x.kids.length e2] ++ ys := by
              rw [List.append_assoc, List.set_append_right _ _ (by omega), hlt5, show j * 5 + 3 - j * 5 = 3 by omega, List.append_assoc]; rfl
            rw [hset1] at hst1
            have hcell1 : (za ++ ([.int .i64 x.kind, .string x.name, .slice a1' x.attrs.length e1, (.string ⟨#[115, 112, 111, 105, 108, 101, 100]⟩), .slice a2' x.kids.length e2] : List Value) ++ ys)[j * 5 + 4]? = some (.slice a2' x.kids.length e2) := by
              rw [List.append_assoc, List.getElem?_append_right (by omega), hlt5, show j * 5 + 4 - j * 5 = 4 by omega]; rfl
            obtain ⟨y4, q4⟩ := own_cell hst1 _ _ hcell1
            have hst := (hst1.stored (j * 5 + 4) (.slice none 0 0)).1
            have hset2 : (za ++ ([.int .i64 x.kind, .string x.name, .slice a1' x.attrs.length e1, (.string ⟨#[115, 112, 111, 105, 108, 101, 100]⟩), .slice a2' x.kids.length e2] : List Value) ++ ys).set (j * 5 + 4) (.slice none 0 0) = za ++ [.int .i64 x.kind, .string x.name, .slice a1' x.attrs.length e1, .string ⟨#[115, 112, 111, 105, 108, 101, 100]⟩, .slice none 0 0] ++ ys := by
              rw [List.append_assoc, List.set_append_right _ _ (by omega), hlt5, show j * 5 + 4 - j * 5 = 4 by omega, List.append_assoc]; rfl
            rw [hset2] at hst
            have hgG : gn ∉ (Value.slice a1' x.attrs.length e1).ownBlock.toList ++ ((Value.slice a2' x.kids.length e2).ownBlock.toList ++ F1) ++ F2 := by
              intro h
              exact (List.nodup_append.1 hndG).2.2 gn (by simp [Value.ownBlock]) gn h rfl
            have hnd2 := (List.nodup_append.1 hndG).2.1
            have s1 := (Spoilt.set wr gn (j * 5 + 3) (.string ⟨#[115, 112, 111, 105, 108, 101, 100]⟩)).trans (Spoilt.set _ gn (j * 5 + 4) (.slice none 0 0))
            have ova1 := s1.own ova (fun b hb => by intro h; simp at h; subst h; exact hgG (by simp [hb]))
            have oc21 := OwnC.keep _ _ _ (fun b hb => s1.block b (by intro h; simp at h; subst h; exact hgG (by simp [hb]))) oc2
            have hsp1 := hsp.trans (s1.mono (G := (Value.slice (some ⟨gn, 0, none⟩) L.length k4).ownBlock.toList ++ F) (fun b hb => by simp at hb; subst hb; simp [Value.ownBlock]))
            have hI0 : (0 : Int) ≤ (j : Int) := by omega
            have hI1 : (j : Int) < (L.length : Int) := by omega
            replace hst := Lib.hid hst
            replace hst1 := Lib.hid hst1
            replace ova1 := Lib.hid ova1
            replace oc21 := Lib.hid oc21
            replace hcell := Lib.hid hcell
            replace hset1 := Lib.hid hset1
            replace hset2 := Lib.hid hset2
            replace hcell1 := Lib.hid hcell1
            clear hownr ova ovk oc2 s1
            go_wp2_with (fail)
            obtain ⟨W1, hW1⟩ : ∃ W1, (wr.setCell ⟨gn, j * 5 + 3, none⟩ (.string ⟨#[115, 112, 111, 105, 108, 101, 100]⟩)).setCell ⟨gn, j * 5 + 4, none⟩ (.slice none 0 0) = W1 := ⟨_, rfl⟩
            rw [hW1] at hst ova1 oc21 hsp1 ⊢
            clear hW1 y3 q3 y4 q4
            have hcell9 : ∀ r u, ([.int .i64 x.kind, .string x.name, .slice a1' x.attrs.length e1, .string ⟨#[115, 112, 111, 105, 108, 101, 100]⟩, .slice none 0 0] : List Value)[r]? = some u → (za ++ [.int .i64 x.kind, .string x.name, .slice a1' x.attrs.length e1, .string ⟨#[115, 112, 111, 105, 108, 101, 100]⟩, .slice none 0 0] ++ ys)[j * 5 + r]? = some u := by
              intro r u hu
              have hr' := (List.getElem?_eq_some_iff.1 hu).1
              rw [List.append_assoc, List.getElem?_append_right (by omega), hlt5, show j * 5 + r - j * 5 = r by omega, List.getElem?_append_left hr']
              exact hu
            replace hcell9 := Lib.hid hcell9
            go_loopw [7] (fun u7 wr => ∃ (k : Nat) (za' : List Value), k ≤ x.attrs.length ∧ u7 = .int .i64 (k : Int) ∧ wr.ownsRow 0 47 2 (.slice a1' x.attrs.length e1) x.attrs.length za' ∧ Spoilt (Value.slice a1' x.attrs.length e1).ownBlock.toList W1 wr) (fun u7 _ => x.attrs.length - (intOf u7).toNat)
            case atStart => exact ⟨0, _, by omega, rfl, ova1.out, Spoilt.refl _ _⟩
            case round =>
              obtain ⟨k, za', hk, rfl, ova2, hs2⟩ := hrel
              have hrow2 := hs2.own hst.out (fun b hb => by
                intro h
                simp [Value.ownBlock] at hb
                subst hb
                exact hgG (by simp [h]))
              obtain ⟨y2, _⟩ := own_cell hrow2 _ _ (hcell9.out 2 _ rfl)
              replace hrow2 := Lib.hid hrow2
              by_cases hkl : k < x.attrs.length
              · obtain ⟨ga, ca, hga, _, hgal⟩ := ova2.form (by omega)
                cases hga
                obtain ⟨hc, hf⟩ : (∃ u, wr.cell? ⟨ga, k * 2 + 1, none⟩ = some u) ∧ wr.frozen? ⟨ga, k * 2 + 1, none⟩ = false := by
                  have hl2 : k * 2 + 1 < za'.length := by rw [ova2.1]; omega
                  obtain ⟨h1, h2⟩ := own_cell ova2 (k * 2 + 1) _ (List.getElem?_eq_getElem hl2)
                  exact ⟨⟨_, h1⟩, h2⟩
                obtain ⟨cu, hc⟩ := hc
                have hst2 := (ova2.stored (k * 2 + 1) (.string ⟨#[115, 112, 111, 105, 108, 101, 100]⟩)).1
                have hs3 : Spoilt (Value.slice (some ⟨ga, 0, none⟩) x.attrs.length e1).ownBlock.toList W1 (wr.setCell ⟨ga, k * 2 + 1, none⟩ (.string ⟨#[115, 112, 111, 105, 108, 101, 100]⟩)) := hs2.trans (Spoilt.set _ _ _ _)
                have hK0 : (0 : Int) ≤ (k : Int) := by omega
                have hK1 : (k : Int) < (x.attrs.length : Int) := by omega
                replace hst2 := Lib.hid hst2
                clear ova2
                go_wp2_with (fail)
                go_roundw
                case rel => exact ⟨k + 1, _, by omega, by go_num, hst2.out, hs3⟩
                case measure => exact meas_nat hkl
              · obtain rfl : k = x.attrs.length := by omega
                have oc22 := OwnC.keep _ _ _ (fun b hb => hs2.block b (fun h => by
                  rw [List.append_assoc] at hnd2
                  exact (List.nodup_append.1 hnd2).2.2 b h b (by simp [hb]) rfl)) oc21.out
                have hs4 := hsp1.trans (hs2.mono (G := (Value.slice (some ⟨gn, 0, none⟩) L.length k4).ownBlock.toList ++ F) (fun b hb => List.mem_append_right _ (hGF b (by simp [hb]))))
                have hndo : ((Value.slice (some ⟨gn, 0, none⟩) L.length k4).ownBlock.toList ++ F2).Nodup := by
                  refine List.nodup_append.2 ⟨(List.nodup_append.1 hndG).1, (List.nodup_append.1 hnd2).2.1, fun b hb c hc => ?_⟩
                  exact (List.nodup_append.1 hndG).2.2 b hb c (List.mem_append_right _ hc)
                have hdrop : (za ++ ([.int .i64 x.kind, .string x.name, .slice a1' x.attrs.length e1, .string ⟨#[115, 112, 111, 105, 108, 101, 100]⟩, .slice none 0 0] : List Value) ++ ys).drop ((j + 1) * 5) = ys := by
                  rw [List.append_assoc, List.drop_append, hlt5, List.drop_of_length_le (by omega), List.nil_append, show (j + 1) * 5 - j * 5 = 5 by omega]; rfl
                replace hdrop := Lib.hid hdrop
                replace oc22 := Lib.hid oc22
                clear ova2
                go_wp2_with (fail)
                go_roundw
                case rel => exact ⟨j + 1, _, F2, by omega, by go_num, hrow2.out, by rw [hdrop.out]; exact oc22.out, fun b hb => hGF b (List.mem_append_right _ hb), hndo, hs4⟩
                case measure => exact meas_nat hjl
          · obtain rfl : j = L.length := by omega
            have hL5 := Lib.hid (hL4.out _ (hsp.below (fun b hb => (hspan.out b hb).1)))
            clear hownr hocr
            go_wp2_with fail
            go_roundw
            case rel => exact ⟨i + 1, by omega, by go_num, by rw [hse.out]; exact hL5⟩
            case measure => exact meas_nat hlt
      · obtain rfl : i = c.length := by omega
        rw [List.take_length] at hL
        have hN := Lib.hid (hL.out.nodes (by omega))
        go_wp2_with fail
        refine hN.out.mono ?_
        rintro e w3 ⟨v3, rfl, hf3, hL3⟩
        have hb3 := hL3.2
        have hz3 := hb3.size
        have hR := hf3.rep
        obtain ⟨a3, k3, rfl⟩ := hR.slice
        have hTr2 := Lib.hid (ref07Tree _ (.slice a1 c.length k1) c w3 (fun b (hb : wo.heap.size ≤ b ∧ b < w1.heap.size) => Nat.lt_of_lt_of_le hb.2 hz3) (hT.out.keep fun b hb => hb3.block b hb.2) (by omega) (by have := hws.out; omega) (by have := hts.out; omega))
        clear hf3 hN hL hL3
        go_wp2_with fail
        refine hTr2.out.mono ?_
        rintro e w4 ⟨v4, rfl, hr4, hb4⟩
        obtain ⟨a4, k4, rfl⟩ := hr4.slice
        have hz4 := hb4.size
        have hR4 := hR.below (fun b h => h.2) hb4
        have hSm := Lib.hid (ref03Same (M3.weight (M7.tree c) + 1) (fun b => b < w4.heap.size) _ _ _ _ w4 (by show M3.weight (M7.tree c) < _; omega) (fun b h => h) (hR4.mono fun b h => Nat.lt_of_lt_of_le h.2 hz4) (hr4.mono fun b h => by
          rcases h with h | h
          · exact Nat.lt_of_lt_of_le h.2 (Nat.le_trans hz3 hz4)
          · exact h.2))
        rw [show (M7.run c).L = M7.tree c from rfl, M3.sameN_self] at hSm
        have hb04 := bt hb1 (bt hb3 hb4)
        clear hR4 hr4 hR
        go_wp2_with fail
        refine hSm.out.mono ?_
        rintro e w5 ⟨rfl, hb5⟩
        have hLv := Lib.hid (fun W => lives07 W)
        have hb05 := bt hb04 hb5
        go_wp2_with fail
        refine (hLv.out _).mono ?_
        rintro e w6 ⟨rfl, hb6⟩
        have hb06 := bt hb05 hb6
        go_wp2_with fail
        go_ret
        exact ⟨rfl, hb06⟩
end Go.Proofs.Ytkobnegpllfpkaa
