/- Texts joined: Shal, Ref03m, DomM, Refs, Refs2, DomM2, Clone3, DomM3, Ref03f, DomM4, Same, Same2, Same3, Ref03s, Small3, Law03m, Ref03y, Ref03z, Law03g, Ref03x, Math3g, Ref03g, Law03v, AnyInv, Region, Ref03h, Good, Math6b. -/
import Derived.StillTailTactics
import Derived.BigCall
import Derived.Deep.QuietTactic
import Derived.BigQuiet
import Derived.IntWalk
import Derived.Deep.RegionHeld3
import Derived.Deep.AppendLies
import Derived.OrdersIn
import Derived.StillTail
import Derived.RegionTactic
import Derived.Outline
import Derived.Deep.CutRange
import Derived.Test.YteefodibpjgicaaGreatM1
import Derived.Test.YteefodibpjgicaaGreatM2
import Derived.Test.YteefodibpjgicaaGreatM3
/- Nodes by the cells that hold them, one level deep: rows that share what stands in them. -/
namespace Go.Proofs.YteefodibpjgicaaGreat
open Go.RowKit
abbrev NV.cells (b : NV) : List Value := b.x.cells b.va b.vk
def cellsV (L : List NV) : List Value := L.flatMap NV.cells
def NV.ok (b : NV) : Prop := (∃ a c, b.va = .slice a b.x.attrs.length c) ∧ ∃ a c, b.vk = .slice a b.x.kids.length c
theorem RepV.ok {S : Nat → Prop} {w : World} {b : NV} (h : RepV S w b.x b.va b.vk) : b.ok := ⟨h.at_.slice, h.kids.slice⟩
theorem RepC.nv {S : Nat → Prop} {w : World} : ∀ (l : List Nd) (xs : List Value), RepC S w xs l → ∃ L : List NV, L.map NV.x = l ∧ xs = cellsV L ∧ ∀ b ∈ L, RepV S w b.x b.va b.vk := by
  intro l
  induction l using Nd.ind with
  | h0 => intro xs h; rw [RepC] at h; exact ⟨[], rfl, h, fun b hb => by cases hb⟩
  | h1 k n ats t ks r _ ih2 =>
    intro xs h
    obtain ⟨va, vk, ys, rfl, h2, h3, h5⟩ := RepC.cons_iff.1 h
    obtain ⟨L, rfl, rfl, hL⟩ := ih2 _ h5
    refine ⟨⟨.mk k n ats t ks, va, vk⟩ :: L, rfl, rfl, fun b hb => ?_⟩
    rcases List.mem_cons.1 hb with rfl | hb
    · exact ⟨h2, h3⟩
    · exact hL b hb
theorem RepN.take {S : Nat → Prop} {w : World} {a : Option Addr} {n cap : Nat} {l : List Nd} (h : RepN S w (.slice a n cap) l) (q : Nat) (hq : q ≤ l.length) : RepN S w (.slice a q cap) (l.take q) := by
  obtain ⟨xs, ⟨h1, a', cap', h2, h3, h4, h5, h6⟩, hc⟩ := h
  cases h2
  refine ⟨xs.take (q * 5), ⟨by simp; omega, a, cap, by simp; omega, by simp; omega, h4, h5, fun hp => ?_⟩, RepC.take l xs q hc⟩
  simp at hp
  obtain ⟨b, off, e, hb, hx⟩ := h6 (by omega)
  refine ⟨b, off, e, hb, fun j u hj => hx j u ?_⟩
  rw [List.getElem?_take] at hj
  split at hj
  · exact hj
  · cases hj
theorem RepN.zero (S : Nat → Prop) (w : World) (b : Nat) : RepN S w (.slice (some ⟨b, 0, none⟩) 0 0) [] := ⟨[], ⟨rfl, some ⟨b, 0, none⟩, 0, rfl, Nat.le_refl _, by omega, (fun e => by cases e), fun h => absurd h (by simp)⟩, RepC.nil _ _⟩
theorem RepN.drop {S : Nat → Prop} {w : World} {b : Nat} {off n cap : Nat} {l : List Nd} (h : RepN S w (.slice (some ⟨b, off, none⟩) n cap) l) (q : Nat) (hq : q ≤ l.length) : RepN S w (.slice (some ⟨b, off + q * 5, none⟩) (n - q) (cap - q)) (l.drop q) := by
  obtain ⟨xs, ⟨h1, a', cap', h2, h3, h4, h5, h6⟩, hc⟩ := h
  cases h2
  refine ⟨xs.drop (q * 5), ⟨by simp; omega, some ⟨b, off + q * 5, none⟩, cap - q, by simp, by simp; omega, by omega, (fun e => by cases e), fun hp => ?_⟩, RepC.drop l xs q hc⟩
  simp at hp
  obtain ⟨b', off', e, hb, hx⟩ := h6 (by omega)
  cases e
  refine ⟨b, off + q * 5, rfl, hb, fun j u hj => ?_⟩
  rw [List.getElem?_drop] at hj
  have := hx _ u hj
  rwa [← Nat.add_assoc] at this

/-- 's[q:]', as the walk has it. -/
theorem RepN.rest {S : Nat → Prop} {w : World} {b : Nat} {off n cap : Nat} {l : List Nd} (h : RepN S w (.slice (some ⟨b, off, none⟩) n cap) l) (q : Nat) (hq : q ≤ l.length) :
    RepN S w (.slice (if cap = q then some ⟨b, off, none⟩ else some ⟨b, off + q * 5, none⟩) (n - q) (cap - q)) (l.drop q) := by
  obtain ⟨hn, hc, _⟩ := h.len
  by_cases e : cap = q
  · rw [if_pos e]
    have h1 : l.drop q = [] := List.drop_of_length_le (by omega)
    rw [h1, show n - q = 0 by omega, show cap - q = 0 by omega]
    exact ⟨[], ⟨rfl, some ⟨b, off, none⟩, 0, rfl, Nat.le_refl _, by omega, (fun e => by cases e), fun h => absurd h (by simp)⟩, RepC.nil _ _⟩
  · rw [if_neg e]
    exact h.drop q hq

/-! ### Merged, by cells -/
def NV.withText (b : NV) (t : ByteArray) : NV := ⟨M3.withText b.x t, b.va, b.vk⟩
end Go.Proofs.YteefodibpjgicaaGreat

/- The reference of layer 3: merged. -/
namespace Go.Proofs.YteefodibpjgicaaGreat
open Go.RowKit
theorem meas_nat {n k : Nat} (h : k < n) : n - (intOf (.int .i64 ((k : Int) + 1))).toNat < n - (intOf (.int .i64 (k : Int))).toNat := by
  show n - ((k : Int) + 1).toNat < n - (k : Int).toNat
  omega

end Go.Proofs.YteefodibpjgicaaGreat

/- Package dom: nodes without empty texts; the texts that nodes begin with. -/
namespace Go.Proofs.YteefodibpjgicaaGreat
open Go.RowKit
end Go.Proofs.YteefodibpjgicaaGreat

/- Package refs' functions: what each call gives, for any text. -/
namespace Go.Proofs.YteefodibpjgicaaGreat
open Go.RowKit Go.Maps Go.WideShapes
theorem zero32 (w : World) : (zeroValue 21).run Tryz.prog w = .ok (.int .i32 0) w := by kernel_rfl

/-! ### The map of names -/
/-- The names' map as it reads. -/
def namesL : List (Lit × DataW Unit) := M2.tbl.map fun p => (.string p.1, .lit (.int .i32 (p.2 : Int)))
def namesD : DataW Unit := rowD namesL (.map [])
theorem namesL_keys : ∀ p ∈ namesL, WideAt.IsKeyLit p.1 := by
  intro p hp
  obtain ⟨q, _, rfl⟩ := List.mem_map.1 hp
  trivial
theorem namesL_apart : namesL.Pairwise (fun p q => p.1 ≠ q.1) := by
  rw [namesL, List.pairwise_map]
  exact M2.tbl_apart.imp (fun h e => h (by simpa using e))
theorem names_has (s : List UInt8) : Maps.has namesD (.string s) = (M2.nm s).isSome := by
  unfold namesD
  rw [rowD_has _ _ _ isMap_empty namesL_keys, has_eq, List.any_nil, Bool.or_false]
  rw [Bool.eq_iff_iff, List.any_eq_true]
  constructor
  · rintro ⟨p, hp, h⟩
    obtain ⟨q, hq, rfl⟩ := List.mem_map.1 hp
    have h := WideAt.sameKey_eq h
    simp only [Lit.string.injEq] at h
    rw [← h, M2.nm_of_mem hq]
    rfl
  · intro h
    obtain ⟨n, hn⟩ := Option.isSome_iff_exists.1 h
    exact ⟨_, List.mem_map.2 ⟨_, M2.nm_mem hn, rfl⟩, WideAt.sameKey_self (by trivial)⟩
theorem names_at (s : List UInt8) : namesD.atKey (.string s) (.lit (.int .i32 0)) = .lit (.int .i32 (((M2.nm s).getD 0 : Nat) : Int)) := by
  cases h : M2.nm s with
  | none =>
    refine atKey_of_not_has ?_ _
    rw [names_has, h]
    rfl
  | some n => exact rowD_at namesL _ _ (.string s, .lit (.int .i32 (n : Int))) isMap_empty namesL_keys namesL_apart (List.mem_map.2 ⟨_, M2.nm_mem h, rfl⟩)
abbrev Names (w : World) (b : Nat) : Prop := w.ownsMap Tryz.prog 9 (plainElem Tryz.prog 21) b 15 namesD

set_option maxHeartbeats 4000000 in
set_option maxRecDepth 100000 in
theorem refsNames (w : World) :
    Calls Tryz.prog 177 #[] w fun e w' => ∃ b, e = .returned (.map (some b)) ∧ Names w' b ∧ Below w.heap.size w w' := by
  have upd : ∀ (wa : World) (D : DataW Unit) (n : Nat) (l : List UInt8) (c : Int), wa.ownsMap Tryz.prog 9 (plainElem Tryz.prog 21) w.heap.size n D → n < 100 → l.length ≤ 100 → 0 ≤ c → c ≤ 10000 →
      ∃ wb, (Instr.mapUpdate 173 (.map (some w.heap.size)) (.string ⟨l.toArray⟩) (.int .i32 c)).run Tryz.prog wa = .ok () wb ∧ wb.ownsMap Tryz.prog 9 (plainElem Tryz.prog 21) w.heap.size (n + 1) (D.put (.string l) (.lit (.int .i32 c))) ∧ wa.grownBy wb (some w.heap.size) := by
    intro wa D n l c ho hn hl h0 h1
    refine ho.update lawS Tryz.underlying173 (by unfold maxLen; omega) (WideMaps.keyOf_string_mk Tryz.underlying9 (s := ⟨l.toArray⟩) (by unfold maxLen; show l.length ≤ _; omega)) (plainElem_int Tryz.underlying21 ?_)
    have h3 : IntKind.i32.min = -2147483648 := rfl
    have h4 : IntKind.i32.max = 2147483647 := rfl
    simp only [Lit.wf, Bool.and_eq_true, decide_eq_true_eq, h3, h4]
    omega
  have o0 := World.ownsMap_made w Tryz.prog 9 (plainElem (H := Unit) Tryz.prog 21)
  have b0 := (Below.refl w.heap.size w).alloc (Nat.le_refl _) (.map #[] 0)
  have hmm := @run_makeMap Tryz.prog 173 w
  generalize w.alloc (.map #[] 0) = w0 at *
  obtain ⟨w1, r1, o1, g1⟩ := upd w0 _ 0 [97, 109, 112] 38 o0 (by decide) (by decide) (by decide) (by decide)
  obtain ⟨w2, r2, o2, g2⟩ := upd w1 _ 1 [108, 116] 60 o1 (by decide) (by decide) (by decide) (by decide)
  obtain ⟨w3, r3, o3, g3⟩ := upd w2 _ 2 [103, 116] 62 o2 (by decide) (by decide) (by decide) (by decide)
  obtain ⟨w4, r4, o4, g4⟩ := upd w3 _ 3 [113, 117, 111, 116] 34 o3 (by decide) (by decide) (by decide) (by decide)
  obtain ⟨w5, r5, o5, g5⟩ := upd w4 _ 4 [97, 112, 111, 115] 39 o4 (by decide) (by decide) (by decide) (by decide)
  obtain ⟨w6, r6, o6, g6⟩ := upd w5 _ 5 [110, 98, 115, 112] 160 o5 (by decide) (by decide) (by decide) (by decide)
  obtain ⟨w7, r7, o7, g7⟩ := upd w6 _ 6 [99, 111, 112, 121] 169 o6 (by decide) (by decide) (by decide) (by decide)
  obtain ⟨w8, r8, o8, g8⟩ := upd w7 _ 7 [114, 101, 103] 174 o7 (by decide) (by decide) (by decide) (by decide)
  obtain ⟨w9, r9, o9, g9⟩ := upd w8 _ 8 [100, 101, 103] 176 o8 (by decide) (by decide) (by decide) (by decide)
  obtain ⟨w10, r10, o10, g10⟩ := upd w9 _ 9 [109, 105, 100, 100, 111, 116] 183 o9 (by decide) (by decide) (by decide) (by decide)
  obtain ⟨w11, r11, o11, g11⟩ := upd w10 _ 10 [116, 105, 109, 101, 115] 215 o10 (by decide) (by decide) (by decide) (by decide)
  obtain ⟨w12, r12, o12, g12⟩ := upd w11 _ 11 [110, 100, 97, 115, 104] 8211 o11 (by decide) (by decide) (by decide) (by decide)
  obtain ⟨w13, r13, o13, g13⟩ := upd w12 _ 12 [109, 100, 97, 115, 104] 8212 o12 (by decide) (by decide) (by decide) (by decide)
  obtain ⟨w14, r14, o14, g14⟩ := upd w13 _ 13 [104, 101, 108, 108, 105, 112] 8230 o13 (by decide) (by decide) (by decide) (by decide)
  obtain ⟨w15, r15, o15, g15⟩ := upd w14 _ 14 [101, 117, 114, 111] 8364 o14 (by decide) (by decide) (by decide) (by decide)
  have hb := (World.grownBy.trans g1 (g2.trans (g3.trans (g4.trans (g5.trans (g6.trans (g7.trans (g8.trans (g9.trans (g10.trans (g11.trans (g12.trans (g13.trans (g14.trans g15))))))))))))))
  have hB := Lib.hid (b0.grown hb b0.size (fun k hk => by cases hk; exact Nat.le_refl _))
  have hN : Hid (Names w15 w.heap.size) := o15
  clear upd b0 o0 o1 o2 o3 o4 o5 o6 o7 o8 o9 o10 o11 o12 o13 o14 o15 g1 g2 g3 g4 g5 g6 g7 g8 g9 g10 g11 g12 g13 g14 g15 hb
  go_enter Tryz.func177, Tryz.ntmps177
  go_wp2
  go_ret
  exact ⟨_, rfl, hN.out, hB.out⟩

/-! ### Numbers -/
set_option maxHeartbeats 1000000 in
theorem refsDigit (r : Int) (w : World) :
    Calls Tryz.prog 198 #[.int .i32 r] w fun e w' => e = .returned (.int .i32 (M2.digZ r)) ∧ w' = w := by
  by_cases h1 : 48 ≤ r ∧ r ≤ 57
  · rw [show M2.digZ r = r - 48 from if_pos h1]
    obtain ⟨h1, h2⟩ := h1
    go_enter Tryz.func198, Tryz.ntmps198
    go_wp2
    go_ret
    exact ⟨rfl, rfl⟩
  by_cases h2 : 97 ≤ r ∧ r ≤ 102
  · rw [show M2.digZ r = r - 97 + 10 by rw [M2.digZ, if_neg h1, if_pos h2]]
    obtain ⟨h2, h3⟩ := h2
    have hd : decide (r ≤ 57) = false := decide_eq_false (by omega)
    clear h1
    go_enter Tryz.func198, Tryz.ntmps198
    go_wp2
    go_ret
    exact ⟨rfl, rfl⟩
  by_cases h3 : 65 ≤ r ∧ r ≤ 70
  · rw [show M2.digZ r = r - 65 + 10 by rw [M2.digZ, if_neg h1, if_neg h2, if_pos h3]]
    obtain ⟨h3, h4⟩ := h3
    have hd : decide (r ≤ 57) = false := decide_eq_false (by omega)
    have hd2 : decide (97 ≤ r) = false := decide_eq_false (by omega)
    clear h1 h2
    go_enter Tryz.func198, Tryz.ntmps198
    go_wp2
    go_ret
    exact ⟨rfl, rfl⟩
  · rw [show M2.digZ r = -1 by rw [M2.digZ, if_neg h1, if_neg h2, if_neg h3]]
    go_enter Tryz.func198, Tryz.ntmps198
    go_wp2
    all_goals first | (exfalso; omega) | (go_ret; exact ⟨rfl, rfl⟩)

set_option maxHeartbeats 1000000 in
theorem refsCharacter (n : Int) (w : World) :
    Calls Tryz.prog 196 #[.int .i32 n] w fun e w' => e = .returned (.int .i32 (M2.chr n)) ∧ w' = w := by
  by_cases h : n = 0 ∨ n = 13 ∨ (55296 ≤ n ∧ n ≤ 57343) ∨ 1114111 < n
  · rw [show M2.chr n = 65533 from if_pos h]
    go_enter Tryz.func196, Tryz.ntmps196
    go_wp2
    all_goals first | (exfalso; omega) | (go_ret; exact ⟨rfl, rfl⟩)
  · rw [show M2.chr n = n from if_neg h]
    have e0 : (n == 0) = false := by simpa using fun e => h (Or.inl e)
    have e1 : (n == 13) = false := by simpa using fun e => h (Or.inr (Or.inl e))
    have e2 : decide (1114111 < n) = false := decide_eq_false (fun e => h (Or.inr (Or.inr (Or.inr e))))
    by_cases h5 : 55296 ≤ n
    · have e3 : decide (n ≤ 57343) = false := decide_eq_false (fun e => h (Or.inr (Or.inr (Or.inl ⟨h5, e⟩))))
      clear h
      go_enter Tryz.func196, Tryz.ntmps196
      go_wp2
      go_ret
      exact ⟨rfl, rfl⟩
    · have e4 : decide (55296 ≤ n) = false := decide_eq_false h5
      clear h
      go_enter Tryz.func196, Tryz.ntmps196
      go_wp2
      go_ret
      exact ⟨rfl, rfl⟩

/-- 'next' on a text, by lists. -/
theorem nextDec {P : Program} (w : World) (k : Nat) (s : ByteArray) (pos : Nat) (hk : w.heap[k]? = some (.stringIter s pos)) (h : pos < s.size) : ∀ ty,
    (Instr.next (.pointer (some ⟨k, 0, none⟩)) true ty).run P w =
      .ok (.tuple #[.bool true, .int .i64 pos, .int .i32 (M1.dec (s.data.toList.drop pos)).1]) (w.iterAt k s (pos + (M1.dec (s.data.toList.drop pos)).2)) := fun ty => by
  rw [Lib.run_next_any_at w k s pos ty hk h, M1.decode_eq]

set_option maxHeartbeats 2000000 in
set_option maxRecDepth 100000 in
theorem refsNumber (s : ByteArray) (b m : Nat) (w : World) (hb0 : 1 ≤ b) (hb : b ≤ 16) (hm : m ≤ 7) (hpow : ∀ k, k ≤ m → ((b : Int)) ^ k ≤ 16777216) (hs : s.size ≤ 9223372036854775807) :
    Calls Tryz.prog 195 #[.string s, .int .i32 (b : Int), .int .i64 (m : Int)] w fun e w' => e = .returned (.tuple #[.int .i32 (M2.val b (M2.digs b m s.data.toList)), .int .i64 ((M2.digs b m s.data.toList).length : Int)]) ∧ Below w.heap.size w w' := by
  have hsz : s.size = s.data.toList.length := rfl
  generalize hl : s.data.toList = l at *
  replace hpow := Lib.hid hpow
  go_enter Tryz.func195, Tryz.ntmps195
  go_wp2
  go_loopw [8, 9] (fun u8 u9 wr => ∃ k : Nat, k ≤ l.length ∧ k ≤ m ∧ u8 = .int .i32 (M2.val b (l.take k)) ∧ u9 = .int .i64 (k : Int) ∧ wr.heap[w.heap.size]? = some (.stringIter s k) ∧ Below w.heap.size w wr ∧ Hid (∀ c ∈ l.take k, M2.isD b c = true)) (fun _ _ wr => l.length - wr.iterPos w.heap.size)
  case atStart =>
    exact ⟨0, by omega, by omega, rfl, rfl, World.iter_heap w _ 0, (Below.refl _ w).alloc (Nat.le_refl _) _, by intro c hc; simp at hc⟩
  case round =>
    obtain ⟨k, hk, hkm, rfl, rfl, hit, hbw, hall⟩ := hrel
    have hbd := M2.val_bd b _ hall.out
    have hlk : (l.take k).length = k := by rw [List.length_take]; omega
    have hpk := hpow.out k hkm
    rw [hlk] at hbd
    have hfin : (k = m ∨ k = l.length ∨ ∃ c, l[k]? = some c ∧ M2.isD b c = false) → M2.digs b m l = l.take k := M2.digs_of b m l k hk hkm hall.out
    by_cases hp : k < l.length
    · have hdr : l.drop k = l[k] :: l.drop (k + 1) := List.drop_eq_getElem_cons hp
      have hnx := nextDec (P := Tryz.prog) wr w.heap.size s k hit (by omega)
      rw [hl, hdr] at hnx
      have htk : l.take (k + 1) = l.take k ++ [l[k]] := List.take_succ_eq_append_getElem hp
      have hfc := fun (h : M2.isD b l[k] = false) => hfin (Or.inr (Or.inr ⟨l[k], List.getElem?_eq_getElem hp, h⟩))
      have hfm := fun (h : k = m) => hfin (Or.inl h)
      have hal : M2.isD b l[k] = true → ∀ c ∈ l.take (k + 1), M2.isD b c = true := by
        intro h c hc
        rw [htk] at hc
        rcases List.mem_append.1 hc with hc | hc
        · exact hall.out c hc
        · simp at hc; subst hc; exact h
      have hva : M2.val b (l.take (k + 1)) = M2.val b (l.take k) * b + M2.digZ l[k].toNat := by rw [htk, M2.val_snoc]
      have hlo := M2.dec_lo l[k] (l.drop (k + 1))
      have hhi := M2.dec_hi l[k] (l.drop (k + 1))
      have hdp := M1.dec_pos (l[k]'hp :: l.drop (k + 1)) (List.cons_ne_nil _ _)
      have hdlt := M1.dec_lt (l[k]'hp :: l.drop (k + 1))
      have hdzb := M2.digZ_bd l[k].toNat
      generalize l[k] = c at *
      generalize l.drop (k + 1) = t at *
      generalize M1.dec (c :: t) = rw_ at *
      obtain ⟨r, wd⟩ := rw_
      simp only at hnx hhi hdlt hdp
      have hbw1 := Lib.below_iterAt hbw (Nat.le_refl _) s (k + wd)
      have hit1 := Lib.iterAt_heap wr w.heap.size s k (k + wd) hit
      have hsz1 := Lib.iterAt_size wr w.heap.size s (k + wd)
      generalize wr.iterAt w.heap.size s (k + wd) = w1 at *
      have hsz2 : w.heap.size < w1.heap.size := by
        have := (Array.getElem?_eq_some_iff.1 hit1).1
        exact this
      clear hfin hdr htk
      replace hfc := Lib.hid hfc
      replace hfm := Lib.hid hfm
      replace hal := Lib.hid hal
      replace hva := Lib.hid hva
      by_cases hd : M2.isD b c = true
      · have hc128 := M2.isD_ascii hd
        have hrw := hlo hc128
        simp only [Prod.mk.injEq] at hrw
        obtain ⟨rfl, rfl⟩ := hrw
        have hd2 := of_decide_eq_true (show decide (0 ≤ M2.digZ c.toNat ∧ M2.digZ c.toNat < b) = true from hd)
        obtain ⟨hd3, hd4⟩ := hd2
        have hal2 := Lib.hid (hal.out hd)
        clear hal hfc hlo hhi hd hdlt hdp
        by_cases hkm2 : k = m
        · replace hfm := Lib.hid (hfm.out hkm2)
          have hne : ((k : Int) == (m : Int)) = true := by rw [hkm2]; simp
          clear hkm2
          have hge : decide ((b : Int) ≤ M2.digZ c.toNat) = false := decide_eq_false (by omega)
          clear hva
          go_wp2_with (go_at_call 198; refine (refsDigit _ _).mono ?_; rintro e w2 ⟨rfl, rfl⟩)
          go_ret2
          rw [hfm.out, hlk]
          exact ⟨rfl, hbw1⟩
        · have hne : ((k : Int) == (m : Int)) = false := by simpa using fun e => hkm2 (by omega)
          have hge : decide ((b : Int) ≤ M2.digZ c.toNat) = false := decide_eq_false (by omega)
          have hm1 : M2.val b (l.take k) * b ≤ 16777216 * 16 := Int.mul_le_mul (by omega) (by omega) (by omega) (by omega)
          have hm0 : 0 ≤ M2.val b (l.take k) * b := Int.mul_nonneg hbd.1 (by omega)
          go_wp2_with (go_at_call 198; refine (refsDigit _ _).mono ?_; rintro e w2 ⟨rfl, rfl⟩)
          go_roundw
          case rel => exact ⟨k + 1, by omega, by omega, by rw [hva.out], by go_num, hit1, hbw1, hal2.out⟩
          case measure => rw [iterPos_of hit1, iterPos_of hit]; omega
      · have hdf : M2.isD b c = false := by simpa using hd
        replace hfc := Lib.hid (hfc.out hdf)
        have hno : M2.digZ r < 0 ∨ (b : Int) ≤ M2.digZ r := by
          rcases Nat.lt_or_ge c.toNat 128 with h1 | h1
          · have hrw := hlo h1
            simp only [Prod.mk.injEq] at hrw
            obtain ⟨rfl, rfl⟩ := hrw
            exact M2.isD_no hdf
          · have h2 := hhi h1
            rw [M2.digZ_big _ (by omega)]
            omega
        have hdz := M2.digZ_bd r
        clear hal hva hfm hlo hhi hd hdf hdzb hpk
        rcases hno with hno | hno
        · go_wp2_with (go_at_call 198; refine (refsDigit _ _).mono ?_; rintro e w2 ⟨rfl, rfl⟩)
          go_ret2
          rw [hfc.out, hlk]
          exact ⟨rfl, hbw1⟩
        · have h0 : decide (M2.digZ r < 0) = false := decide_eq_false (by omega)
          go_wp2_with (go_at_call 198; refine (refsDigit _ _).mono ?_; rintro e w2 ⟨rfl, rfl⟩)
          go_ret2
          rw [hfc.out, hlk]
          exact ⟨rfl, hbw1⟩
    · have hnx := fun ty => Lib.run_next_end_at (P := Tryz.prog) wr w.heap.size s k ty hit (by omega)
      have hfin := Lib.hid (hfin (Or.inr (Or.inl (by omega))))
      go_wp2
      go_ret2
      rw [hfin.out, hlk]
      exact ⟨rfl, hbw⟩

/-! ### References -/
/-- What a call answers of a reference. -/
def ans (o : Option (Int × Nat)) : Value := .tuple #[.int .i32 ((o.map (·.1)).getD 0), .int .i64 (((o.map (·.2)).getD 0 : Nat) : Int)]
theorem ans_mk (o : Option (Int × Nat)) : ∃ x y, ans o = .tuple #[.int .i32 x, .int .i64 y] := ⟨_, _, rfl⟩
theorem ans_none : ans none = .tuple #[.int .i32 0, .int .i64 0] := rfl
theorem ans_some (r : Int) (n : Nat) : ans (some (r, n)) = .tuple #[.int .i32 r, .int .i64 (n : Int)] := rfl

set_option maxHeartbeats 2000000 in
set_option maxRecDepth 100000 in
theorem refsNumbered (s : ByteArray) (f b m : Nat) (w : World) (hf : f ≤ s.size) (hb0 : 1 ≤ b) (hb : b ≤ 16) (hm : m ≤ 7) (hpow : ∀ k, k ≤ m → ((b : Int)) ^ k ≤ 16777216) (hs : s.size ≤ 1073741824) :
    Calls Tryz.prog 188 #[.string s, .int .i64 (f : Int), .int .i32 (b : Int), .int .i64 (m : Int)] w fun e w' => e = .returned (ans (M2.num f b m s.data.toList)) ∧ Below w.heap.size w w' := by
  have hsz : s.size = s.data.toList.length := rfl
  have hN := refsNumber (s.extract f s.size) b m w hb0 hb hm hpow (by rw [ByteArray.size_extract]; omega)
  rw [extract_end] at hN
  have hdl := M2.digs_len b m (s.data.toList.drop f)
  rw [List.length_drop] at hdl
  have hbd := M2.val_bd b _ (M2.digs_all b m (s.data.toList.drop f))
  have hpk := hpow _ hdl.1
  have hnum := Lib.hid (rfl : M2.num f b m s.data.toList = M2.num f b m s.data.toList)
  replace hnum : Hid (M2.num f b m s.data.toList = if (M2.digs b m (s.data.toList.drop f)).length = 0 ∨ s.data.toList[f + (M2.digs b m (s.data.toList.drop f)).length]? ≠ some 59 then none
    else some (M2.chr (M2.val b (M2.digs b m (s.data.toList.drop f))), f + (M2.digs b m (s.data.toList.drop f)).length + 1)) := rfl
  generalize M2.digs b m (s.data.toList.drop f) = ds at *
  generalize M2.num f b m s.data.toList = R at *
  generalize M2.val b ds = v at *
  generalize ds.length = k at *
  replace hN := Lib.hid hN
  clear hpow
  by_cases hk : k = 0
  · have hR := Lib.hid (hnum.out.trans (if_pos (Or.inl hk)))
    clear hnum hsz
    subst hk
    go_enter Tryz.func188, Tryz.ntmps188
    go_wp2_with (go_at_call 195; refine hN.out.mono ?_; rintro e w1 ⟨rfl, hb1⟩)
    go_ret2
    rw [hR.out, ans_none]
    exact ⟨rfl, hb1⟩
  by_cases he : f + k = s.size
  · have hR := Lib.hid (hnum.out.trans (if_pos (Or.inr (by rw [List.getElem?_eq_none (by omega)]; simp))))
    have hkb : ((k : Int) == 0) = false := by simpa using hk
    have heb : ((f : Int) + (k : Int) == (s.size : Int)) = true := by simpa using (by omega : (f : Int) + (k : Int) = (s.size : Int))
    clear hnum hk he hsz
    go_enter Tryz.func188, Tryz.ntmps188
    go_wp2_with (go_at_call 195; refine hN.out.mono ?_; rintro e w1 ⟨rfl, hb1⟩)
    go_ret2
    rw [hR.out, ans_none]
    exact ⟨rfl, hb1⟩
  have hlt : f + k < s.size := by omega
  have hgt : s.data.toList[f + k]? = some s[f + k] := by
    rw [List.getElem?_eq_getElem (by omega)]
    rfl
  rw [hgt] at hnum
  have hkb : ((k : Int) == 0) = false := by simpa using hk
  have heb : ((f : Int) + (k : Int) == (s.size : Int)) = false := by simpa using (by omega : ¬ (f : Int) + (k : Int) = (s.size : Int))
  by_cases h59 : s[f + k] = 59
  · have hR := Lib.hid (hnum.out.trans (if_neg (by rw [h59]; simp [hk])))
    clear hnum hk he hgt hsz
    go_enter Tryz.func188, Tryz.ntmps188
    go_wp2_with (go_at_call 195; refine hN.out.mono ?_; rintro e w1 ⟨rfl, hb1⟩)
    go_wp2_with (go_at_call 196; refine (refsCharacter _ _).mono ?_; rintro e w2 ⟨rfl, rfl⟩)
    go_ret2
    rw [hR.out, ans_some]
    exact ⟨rfl, hb1⟩
  · have hR := Lib.hid (hnum.out.trans (if_pos (Or.inr (by simpa using h59))))
    have hne : ((s[f + k].toNat : Int) != 59) = true := by
      rw [bne_iff_ne]; intro h; exact h59 (UInt8.toNat_inj.1 (by simpa using (by omega : s[f + k].toNat = 59)))
    clear hnum hk he hgt hsz h59
    go_enter Tryz.func188, Tryz.ntmps188
    go_wp2_with (go_at_call 195; refine hN.out.mono ?_; rintro e w1 ⟨rfl, hb1⟩)
    go_ret2
    rw [hR.out, ans_none]
    exact ⟨rfl, hb1⟩

/-- 'v, ok := known[s]' in the names' map, for the walk. -/
theorem names_look {w : World} {b : Nat} (h : Names w b) (s : ByteArray) (hs : s.size ≤ 1073741824) :
    (Instr.lookup 173 (.map (some b)) (.string s) true).run Tryz.prog w = .ok (.tuple #[.int .i32 (((M2.nm s.data.toList).getD 0 : Nat) : Int), .bool (M2.nm s.data.toList).isSome]) w := by
  have := look_ok_int h lawS Tryz.underlying173 Tryz.underlying21 (zero32 w) (WideMaps.keyOf_string_mk Tryz.underlying9 (s := s) (by unfold maxLen; omega)) (names_at s.data.toList)
  rw [names_has] at this
  exact this

set_option maxHeartbeats 2000000 in
set_option maxRecDepth 100000 in
theorem refsNamed (s : ByteArray) (b : Nat) (w : World) (hN : Names w b) (h1 : 1 ≤ s.size) (hs : s.size ≤ 1073741824) :
    Calls Tryz.prog 189 #[.string s, .map (some b)] w fun e w' => e = .returned (ans (M2.named s.data.toList)) ∧ w' = w := by
  have hnear : (s.extract 1 (min (s.size : Int) 8).toNat).data.toList = M2.near s.data.toList := by
    rw [Lib.extract_data, show (min (s.size : Int) 8).toNat = min s.size 8 by omega]
    unfold M2.near
    have : s.data.toList.length = s.size := rfl
    rcases Nat.le_total s.size 8 with h | h
    · rw [Nat.min_eq_left h, List.take_of_length_le (by rw [List.length_drop]; omega), List.take_of_length_le (by rw [List.length_drop]; omega)]
    · rw [Nat.min_eq_right h]
  have hnsz : (s.extract 1 (min (s.size : Int) 8).toNat).size ≤ 7 := by rw [ByteArray.size_extract]; omega
  generalize hR : M2.named s.data.toList = R
  unfold M2.named at hR
  rw [← hnear] at hR
  replace hR := Lib.hid hR
  clear hnear
  go_enter Tryz.func189, Tryz.ntmps189
  go_wp2_with fail
  generalize s.extract 1 (min (s.size : Int) 8).toNat = nr at *
  refine (sIndexByte nr 59 w).mono ?_
  rintro e w' ⟨rfl, rfl⟩
  rw [show (59 : Int).toNat.toUInt8 = 59 from rfl]
  have hge := Lib.indexByte_ge nr.data.toList 59
  have hat := fun (o : Nat) (h : Lib.indexByte nr.data.toList 59 = o) => (List.getElem?_eq_some_iff.1 (Lib.indexByte_some h).1).1
  generalize Lib.indexByte nr.data.toList 59 = i at *
  by_cases hi : i < 0
  · have hR2 := Lib.hid (hR.out.symm.trans (if_pos hi))
    clear hR hat
    go_wp2
    go_ret2
    rw [hR2.out, ans_none]
    exact ⟨rfl, rfl⟩
  · obtain ⟨k, rfl⟩ : ∃ k : Nat, i = k := ⟨i.toNat, by omega⟩
    have hk : k < nr.size := hat k rfl
    have hR2 := hR.out.symm.trans (if_neg hi)
    clear hR hat
    have hl := names_look hN (nr.extract 0 k) (by rw [ByteArray.size_extract]; omega)
    have hx : (nr.extract 0 k).data.toList = nr.data.toList.take k := by rw [Lib.extract_data]; simp
    rw [hx] at hl
    rw [Int.toNat_natCast] at hR2
    cases hq : M2.nm (nr.data.toList.take k) with
    | none =>
      rw [hq] at hl hR2
      simp only [Option.getD_none, Option.isSome_none] at hl
      replace hR2 := Lib.hid (show R = none from hR2)
      clear hx hq hi
      go_wp2
      go_ret2
      rw [hR2.out, ans_none]
      exact ⟨rfl, rfl⟩
    | some n =>
      rw [hq] at hl hR2
      simp only [Option.getD_some, Option.isSome_some] at hl
      replace hR2 := Lib.hid (show R = some ((n : Int), 1 + k + 1) from hR2)
      clear hx hq hi
      go_wp2
      go_ret2
      rw [hR2.out, ans_some]
      exact ⟨rfl, rfl⟩

theorem hp_of {s : ByteArray} (p : List UInt8) (q : Bool) (h : decide (s.data.toList.take p.length = p) = q) : Lib.hasPrefix s.data.toList p = q := by
  rw [← h, Bool.eq_iff_iff, decide_eq_true_iff, Lib.hasPrefix, List.isPrefixOf_iff_prefix, List.prefix_iff_eq_take]
  exact eq_comm

set_option maxHeartbeats 2000000 in
set_option maxRecDepth 100000 in
/-- The helper 'one' at a text that begins with &. -/
theorem refsOne' (s : ByteArray) (b : Nat) (w : World) (hN : Names w b) (h38 : s.data.toList.head? = some 38) (hs : s.size ≤ 1073741824) :
    Calls Tryz.prog 178 #[.string s, .map (some b)] w fun e w' => e = .returned (ans (M2.one s.data.toList)) ∧ Below w.heap.size w w' := by
  have h1 : 1 ≤ s.size := by
    have : s.data.toList.length = s.size := rfl
    cases hl : s.data.toList with
    | nil => rw [hl] at h38; cases h38
    | cons c t => rw [hl] at this; simp at this; omega
  have hone : M2.one s.data.toList = if s.data.toList.take 3 = [38, 35, 120] ∨ s.data.toList.take 3 = [38, 35, 88] then M2.num 3 16 6 s.data.toList
      else if s.data.toList.take 2 = [38, 35] then M2.num 2 10 7 s.data.toList else M2.named s.data.toList := by
    unfold M2.one
    rw [if_neg (by simp [h38])]
  have len := fun (k : Nat) (p : List UInt8) (h : s.data.toList.take k = p) (hp : p.length = k) => (by
    have := congrArg List.length h
    rw [List.length_take, hp] at this
    have e : s.data.toList.length = s.size := rfl
    omega : k ≤ s.size)
  have H16 : 3 ≤ s.size → Calls Tryz.prog 188 #[.string s, .int .i64 3, .int .i32 16, .int .i64 6] w fun e w' => e = .returned (ans (M2.num 3 16 6 s.data.toList)) ∧ Below w.heap.size w w' := fun h => refsNumbered s 3 16 6 w h (by omega) (by omega) (by omega) (by decide) hs
  have H10 : 2 ≤ s.size → Calls Tryz.prog 188 #[.string s, .int .i64 2, .int .i32 10, .int .i64 7] w fun e w' => e = .returned (ans (M2.num 2 10 7 s.data.toList)) ∧ Below w.heap.size w w' := fun h => refsNumbered s 2 10 7 w h (by omega) (by omega) (by omega) (by decide) hs
  have HN := refsNamed s b w hN h1 hs
  have px := hp_of (s := s) [38, 35, 120]
  have pX := hp_of (s := s) [38, 35, 88]
  have p2 := hp_of (s := s) [38, 35]
  simp only [List.length_cons, List.length_nil] at px pX p2
  generalize M2.one s.data.toList = R at *
  clear h38 hN
  obtain ⟨x16, y16, e16⟩ := ans_mk (M2.num 3 16 6 s.data.toList)
  obtain ⟨x10, y10, e10⟩ := ans_mk (M2.num 2 10 7 s.data.toList)
  obtain ⟨xn, yn, en⟩ := ans_mk (M2.named s.data.toList)
  rw [e16] at H16
  rw [e10] at H10
  rw [en] at HN
  by_cases c1 : s.data.toList.take 3 = [38, 35, 120]
  · have hR := Lib.hid ((congrArg ans (hone.trans (if_pos (Or.inl c1)))).trans e16)
    have q1 := px true (decide_eq_true c1)
    have H := Lib.hid (H16 (len 3 _ c1 rfl))
    clear hone len H16 H10 HN px pX p2 c1 e16 e10 en
    go_enter Tryz.func178, Tryz.ntmps178
    go_wp2_with (first | (go_at_call 104; refine (hasPrefix_any _ _ _).mono ?_; rintro e w1 ⟨rfl, rfl⟩) | (go_at_call 188; refine H.out.mono ?_; rintro e w2 ⟨rfl, hb⟩))
    go_ret2
    exact ⟨by rw [hR.out]; rfl, hb⟩
  have q1 := px false (decide_eq_false c1)
  by_cases c2 : s.data.toList.take 3 = [38, 35, 88]
  · have hR := Lib.hid ((congrArg ans (hone.trans (if_pos (Or.inr c2)))).trans e16)
    have q2 := pX true (decide_eq_true c2)
    have H := Lib.hid (H16 (len 3 _ c2 rfl))
    clear hone len H16 H10 HN px pX p2 c1 c2 e16 e10 en
    go_enter Tryz.func178, Tryz.ntmps178
    go_wp2_with (first | (go_at_call 104; refine (hasPrefix_any _ _ _).mono ?_; rintro e w1 ⟨rfl, rfl⟩) | (go_at_call 188; refine H.out.mono ?_; rintro e w2 ⟨rfl, hb⟩))
    go_ret2
    exact ⟨by rw [hR.out]; rfl, hb⟩
  have q2 := pX false (decide_eq_false c2)
  rw [if_neg (by rintro (h | h); exact c1 h; exact c2 h)] at hone
  by_cases c3 : s.data.toList.take 2 = [38, 35]
  · have hR := Lib.hid ((congrArg ans (hone.trans (if_pos c3))).trans e10)
    have q3 := p2 true (decide_eq_true c3)
    have H := Lib.hid (H10 (len 2 _ c3 rfl))
    clear hone len H16 H10 HN px pX p2 c1 c2 c3 e16 e10 en
    go_enter Tryz.func178, Tryz.ntmps178
    go_wp2_with (first | (go_at_call 104; refine (hasPrefix_any _ _ _).mono ?_; rintro e w1 ⟨rfl, rfl⟩) | (go_at_call 188; refine H.out.mono ?_; rintro e w2 ⟨rfl, hb⟩))
    go_ret2
    exact ⟨by rw [hR.out]; rfl, hb⟩
  · have hR := Lib.hid ((congrArg ans (hone.trans (if_neg c3))).trans en)
    have q3 := p2 false (decide_eq_false c3)
    have H := Lib.hid HN
    clear hone len H16 H10 HN px pX p2 c1 c2 c3 e16 e10 en
    go_enter Tryz.func178, Tryz.ntmps178
    go_wp2_with (first | (go_at_call 104; refine (hasPrefix_any _ _ _).mono ?_; rintro e w1 ⟨rfl, rfl⟩) | (go_at_call 189; refine H.out.mono ?_; rintro e w2 ⟨rfl, rfl⟩))
    go_ret2
    exact ⟨by rw [hR.out]; rfl, Below.refl _ _⟩


end Go.Proofs.YteefodibpjgicaaGreat

/- Package refs' Decode and Escape: what each call gives, for any text. -/
namespace Go.Proofs.YteefodibpjgicaaGreat
open Go.RowKit Go.Maps Go.WideShapes
theorem names_keep {w w' : World} {b B : Nat} (h : Names w b) (hb : Below B w w') (hlt : b < B) : Names w' b := by
  obtain ⟨es, clock, h1, h2⟩ := h
  exact ⟨es, clock, by rw [hb.block b hlt]; exact h1, h2⟩
theorem grown_below {w w' : World} (hb : Below w.heap.size w w') : w.grownBy w' none := ⟨hb.os, hb.tape, hb.output, hb.size, fun k hk _ => hb.block k hk⟩
theorem bldrAt_below {T e : TypeId} {B b : Nat} {p : Value} {bs : List Value} {w w' : World} (h : Lib.BuilderAtF T e B b p bs w) (hb : Below w.heap.size w w') : Lib.BuilderAtF T e B b p bs w' := by
  have hlt := h.lt
  obtain ⟨hB, v, hbk, hown, hne⟩ := h
  refine ⟨hB, v, by rw [hb.block b hlt]; exact hbk, hown.kept (grown_below hb) (by cases v.ownBlock <;> simp), hne⟩
/-- How long a text in a slot is. -/
def strSz : Value → Nat
  | .string s => s.size
  | _ => 0

set_option maxHeartbeats 4000000 in
set_option maxRecDepth 100000 in
theorem refsDecode (s : ByteArray) (w : World) (hs : s.size ≤ 1073741824) :
    Calls Tryz.prog 167 #[.string s] w fun e w' => e = .returned (.string ⟨(M2.decode s.data.toList).toArray⟩) ∧ Below w.heap.size w w' := by
  by_cases hc : (38 : UInt8) ∈ s.data.toList
  · have hge : decide (0 ≤ Lib.indexByte s.data.toList 38) = true := by
      refine decide_eq_true ?_
      have h1 := Lib.indexByte_ge s.data.toList 38
      rcases Int.lt_or_le (Lib.indexByte s.data.toList 38) 0 with h2 | h2
      · exfalso
        obtain ⟨k, hk⟩ := List.getElem?_of_mem hc
        exact Lib.indexByte_none (by omega) k hk
      · exact h2
    clear hc
    generalize hD : M2.decode s.data.toList = D
    replace hD := Lib.hid hD
    go_enter Tryz.func167, Tryz.ntmps167
    go_wp2_with fail
    refine (sContains1 s 38 w).mono ?_
    rintro e w0 ⟨rfl, rfl⟩
    rw [hge]
    clear hge
    go_wp2_with fail
    refine (refsNames _).mono ?_
    rintro e w1 ⟨b, rfl, hN, b1⟩
    have hblt := hN.lt
    go_wp2
    go_loopw [0] (fun u0 wr => ∃ (t : ByteArray) (acc : List UInt8), u0 = .string t ∧ t.size ≤ s.size ∧ acc.length ≤ 4 * (s.size - t.size) ∧ Lib.IsBuilderF 120 5 w1.heap.size w1.heap.size (u8s acc) wr ∧ Names wr b ∧ Below w1.heap.size w1 wr ∧ Hid (D = acc ++ M2.decode t.data.toList)) (fun u0 _ => strSz u0)
    case atStart =>
      exact ⟨s, [], rfl, by omega, by simp, Lib.IsBuilderF.of (Lib.fresh_isBuilder 120 5 w1), hN.alloc _, (Below.refl _ w1).alloc (Nat.le_refl _) _, hD.out.symm⟩
    case round =>
      obtain ⟨t, acc, rfl, htl, hal, hI, hNr, hbr, hacc⟩ := hrel
      have htz : t.data.toList.length = t.size := rfl
      have hge := Lib.indexByte_ge t.data.toList 38
      have hno := Lib.indexByte_none (l := t.data.toList) (c := 38)
      have hso := fun o => Lib.indexByte_some (l := t.data.toList) (c := 38) (o := o)
      have hB := hbr.size
      go_wp2_with fail
      refine (sIndexByte t 38 wr).mono ?_
      rintro e w' ⟨rfl, rfl⟩
      rw [show (38 : Int).toNat.toUInt8 = 38 from rfl]
      generalize Lib.indexByte t.data.toList 38 = i at *
      by_cases hi : i < 0
      · have h38 : (38 : UInt8) ∉ t.data.toList := fun hm => by
          obtain ⟨k, hk⟩ := List.getElem?_of_mem hm
          exact hno (by omega) k hk
        have hd := Lib.hid (hacc.out.trans (congrArg (acc ++ ·) (M2.decode_self _ h38)))
        clear hno hso h38 hacc htz hge
        go_wp2_with fail
        refine (bWriteString w1.heap.size w1.heap.size (u8s acc) t _ hI (by rw [u8s_length]; omega) hB).mono ?_
        rintro e w2 ⟨rfl, hI2, b2, k2⟩
        have hI3 : Lib.IsBuilderF 120 5 w1.heap.size w1.heap.size (u8s (acc ++ t.data.toList)) w2 := by rw [u8s_append]; exact Or.inr hI2
        have hz2 := b2.size
        go_wp2_with fail
        refine (bString w1.heap.size w1.heap.size _ w2 hI3 (by omega)).mono ?_
        rintro e w3 ⟨rfl, _, b3, _⟩
        go_wp2
        go_ret
        rw [hd.out]
        exact ⟨rfl, bt b1 ((hbr.trans b2).trans b3)⟩
      · obtain ⟨k, rfl⟩ : ∃ k : Nat, i = k := ⟨i.toNat, by omega⟩
        obtain ⟨hk1, hk2⟩ := hso k rfl
        have hk : k < t.size := (List.getElem?_eq_some_iff.1 hk1).1
        have hpast : M2.decode t.data.toList = t.data.toList.take k ++ M2.decode (t.data.toList.drop k) := by
          conv => lhs; rw [← List.take_append_drop k t.data.toList]
          refine M2.decode_past _ _ (fun hm => ?_)
          obtain ⟨j, hj, hj2⟩ := List.getElem_of_mem hm
          have hj1 : j < k := by rw [List.length_take] at hj; omega
          refine hk2 j hj1 ?_
          rw [← hj2, List.getElem_take, List.getElem?_eq_getElem]
        have hhd : (t.data.toList.drop k).head? = some 38 := by rw [List.head?_drop]; exact hk1
        clear hno hso hge hk1 hk2 hi
        have x0 : (t.extract 0 k).data.toList = t.data.toList.take k := by rw [Lib.extract_data]; simp
        have x1 : (t.extract k t.size).data.toList = t.data.toList.drop k := extract_end t k
        have z0 : (t.extract 0 k).size = k := by rw [ByteArray.size_extract]; omega
        have z1 : (t.extract k t.size).size = t.size - k := by rw [ByteArray.size_extract]; omega
        rw [← x1] at hhd hpast
        rw [← x0] at hpast
        replace hacc := Lib.hid (hacc.out.trans (congrArg (acc ++ ·) hpast))
        replace hhd := Lib.hid hhd
        replace x0 := Lib.hid x0
        have z0 := Lib.hid z0
        have z1 := Lib.hid z1
        have hrest : ∃ (r : Int) (n : Nat), (r = 38 ∧ n = 1 ∧ M2.one (t.extract k t.size).data.toList = none ∨ M2.one (t.extract k t.size).data.toList = some (r, n)) ∧ 0 ≤ r ∧ r ≤ 1114111 ∧ 1 ≤ n ∧ n ≤ t.size - k ∧ M2.decode (t.extract k t.size).data.toList = M1.enc r ++ M2.decode ((t.extract k t.size).data.toList.drop n) := by
          have hlen : (t.extract k t.size).data.toList.length = t.size - k := z1.out
          cases ho : M2.one (t.extract k t.size).data.toList with
          | none =>
            refine ⟨38, 1, Or.inl ⟨rfl, rfl, rfl⟩, by omega, by omega, by omega, by omega, ?_⟩
            have h := hhd.out
            generalize (t.extract k t.size).data.toList = u at *
            cases u with
            | nil => cases h
            | cons c u =>
              simp at h
              subst h
              rw [M2.decode_byte ho, show M1.enc 38 = [38] by decide]
              rfl
          | some p =>
            obtain ⟨r, n⟩ := p
            have hb := M2.one_bd ho
            have hok := hb.2.2.1
            unfold M1.okRune at hok
            exact ⟨r, n, Or.inr rfl, by omega, by omega, by omega, by omega, M2.decode_ref ho⟩
        obtain ⟨r, n, hone, hr0, hr1, hn1, hn2, hdec⟩ := hrest
        have hone := Lib.hid hone
        replace hacc := Lib.hid (hacc.out.trans (congrArg (fun x => acc ++ ((t.extract 0 k).data.toList ++ x)) hdec))
        clear hpast x1 hdec
        rename_i z0' z1' hone'
        clear z0' z1' hone'
        go_wp2_with fail
        refine (bWriteString w1.heap.size w1.heap.size (u8s acc) (t.extract 0 k) _ hI (by rw [u8s_length, z0.out]; omega) hB).mono ?_
        rintro e w2 ⟨rfl, hI2, b2, k2⟩
        have hI3 : Lib.BuilderAtF 120 5 w1.heap.size w1.heap.size (.pointer (some ⟨w1.heap.size, 0, none⟩)) (u8s (acc ++ (t.extract 0 k).data.toList)) w2 := by rw [u8s_append]; exact hI2
        have hN2 := names_keep hNr b2 hblt
        have B2 := hbr.trans b2
        have hz2 := B2.size
        clear hI2 k2 b2
        have hal2 : (acc ++ (t.extract 0 k).data.toList).length ≤ acc.length + k := by
          have e : (t.extract 0 k).data.toList.length = k := z0.out
          rw [List.length_append, e]
          exact Nat.le_refl _
        have htb : (t.extract k t.size).size ≤ 1073741824 := by rw [z1.out]; omega
        have hacc2 : Hid (D = (acc ++ (t.extract 0 k).data.toList ++ M1.enc r) ++ M2.decode ((t.extract k t.size).data.toList.drop n)) := by
          show _ = _
          rw [hacc.out]
          simp
        have hz1 := z1.out
        clear hacc z0 z1 x0
        generalize acc ++ (t.extract 0 k).data.toList = acc2 at *
        go_wp2_with fail
        refine (refsOne' (t.extract k t.size) b w2 hN2 hhd.out htb).mono ?_
        rintro e w3 ⟨rfl, b3⟩
        generalize t.extract k t.size = tb at *
        have hI4 := bldrAt_below hI3 b3
        have hN3 := ownsMap_below hN2 b3
        have B3 := B2.trans (b3.mono hz2)
        have hz3 := B3.size
        have xn : (tb.extract n tb.size).data.toList = tb.data.toList.drop n := extract_end tb n
        have zn : Hid ((tb.extract n tb.size).size = t.size - k - n) := by
          show _ = _
          rw [ByteArray.size_extract]; omega
        rw [← xn] at hacc2
        have hntb : n ≤ tb.size := by omega
        have hel := M2.enc_len_le r
        replace hz1 := Lib.hid hz1
        clear hI3 hN2 B2 hz2 b3 xn
        have fin : ∀ w4, Lib.BuilderAtF 120 5 w1.heap.size w1.heap.size (.pointer (some ⟨w1.heap.size, 0, none⟩)) (u8s acc2 ++ Lib.runeCells r) w4 → Below w1.heap.size w3 w4 →
            ∃ (t' : ByteArray) (acc' : List UInt8), Value.string (tb.extract n tb.size) = .string t' ∧ t'.size ≤ s.size ∧ acc'.length ≤ 4 * (s.size - t'.size) ∧ Lib.IsBuilderF 120 5 w1.heap.size w1.heap.size (u8s acc') w4 ∧ Names w4 b ∧ Below w1.heap.size w1 w4 ∧ Hid (D = acc' ++ M2.decode t'.data.toList) := by
          intro w4 hI5 b4
          refine ⟨_, acc2 ++ M1.enc r, rfl, by rw [zn.out]; omega, by rw [zn.out, List.length_append]; omega, ?_, names_keep hN3 b4 hblt, B3.trans b4, hacc2.out⟩
          rw [u8s_append, show u8s (M1.enc r) = Lib.runeCells r from Lib.byteCells_encodeRune r]
          exact Or.inr hI5
        replace fin := Lib.hid fin
        have hWR := fun (x : Int) (h1 : 0 ≤ x) (h2 : x ≤ 1114111) => bWriteRune w1.heap.size w1.heap.size (u8s acc2) x (by omega) (by omega) w3 (Or.inr hI4) (by rw [u8s_length]; omega) hz3
        replace hWR := Lib.hid hWR
        rcases hone.out with ⟨rfl, rfl, ho⟩ | ho
        · rw [ho, ans_none]
          clear ho hone
          go_wp2_with fail
          refine (hWR.out 38 (by omega) (by omega)).mono ?_
          rintro e w4 ⟨rfl, hI5, b4, k4⟩
          have F := Lib.hid (fin.out w4 hI5 b4)
          go_wp2
          go_roundw
          case rel => exact F.out
          case measure => have hz1' := hz1.out; simp [strSz]; omega
        · rw [ho, ans_some]
          have hn0 : ((n : Int) == 0) = false := by simp; omega
          clear ho hone
          go_wp2_with fail
          refine (hWR.out r hr0 hr1).mono ?_
          rintro e w4 ⟨rfl, hI5, b4, k4⟩
          have F := Lib.hid (fin.out w4 hI5 b4)
          go_wp2
          go_roundw
          case rel => exact F.out
          case measure => have hz1' := hz1.out; simp [strSz]; omega
  · have hge : decide (0 ≤ Lib.indexByte s.data.toList 38) = false := by
      refine decide_eq_false ?_
      rw [M2.indexByte_no _ _ hc]
      omega
    rw [M2.decode_self _ hc]
    clear hc
    go_enter Tryz.func167, Tryz.ntmps167
    go_wp2_with fail
    refine (sContains1 s 38 w).mono ?_
    rintro e w0 ⟨rfl, rfl⟩
    rw [hge]
    clear hge
    go_wp2_with fail
    refine (sClone s _ (by omega)).mono ?_
    rintro e w1 ⟨rfl, b1⟩
    go_wp2
    go_ret
    exact ⟨rfl, b1⟩

set_option maxHeartbeats 4000000 in
set_option maxRecDepth 100000 in
theorem refsEscape (s : ByteArray) (v : Bool) (w : World) (hs : s.size ≤ 1073741824) :
    Calls Tryz.prog 119 #[.string s, .bool v] w fun e w' => e = .returned (.string ⟨(M2.escape v s.data.toList).toArray⟩) ∧ Below w.heap.size w w' := by
  go_enter Tryz.func119, Tryz.ntmps119
  go_wp2
  go_loopw [10] (fun i wr => ∃ k : Nat, k ≤ s.size ∧ i = .int .i64 k ∧ Lib.IsBuilderF 120 5 w.heap.size w.heap.size (u8s (M2.escape v (s.data.toList.take k))) wr ∧ Below w.heap.size w wr) (fun i _ => s.size - (intOf i).toNat)
  case atStart =>
    exact ⟨0, by omega, rfl, Lib.IsBuilderF.of (Lib.fresh_isBuilder 120 5 w), (Below.refl _ w).alloc (Nat.le_refl _) _⟩
  case round =>
    obtain ⟨k, hk, rfl, hI, hbw⟩ := hrel
    have hle := M2.escape_len v (s.data.toList.take k)
    have hlt1 : (s.data.toList.take k).length ≤ k := List.length_take_le _ _
    have hB := hbw.size
    by_cases hlt : k < s.size
    · have htk : M2.escape v (s.data.toList.take (k + 1)) = M2.escape v (s.data.toList.take k) ++ M2.esc v s[k] := by
        rw [show s.data.toList.take (k + 1) = s.data.toList.take k ++ [s[k]] from List.take_succ_eq_append_getElem (l := s.data.toList) hlt, M2.escape_append]
        simp [M2.escape]
      have fin : ∀ (add : List UInt8) w2, M2.esc v s[k] = add → Lib.BuilderAtF 120 5 w.heap.size w.heap.size (.pointer (some ⟨w.heap.size, 0, none⟩)) (u8s (M2.escape v (s.data.toList.take k)) ++ u8s add) w2 → Below w.heap.size wr w2 →
          ∃ j : Nat, j ≤ s.size ∧ Value.int .i64 ((k : Int) + 1) = .int .i64 j ∧ Lib.IsBuilderF 120 5 w.heap.size w.heap.size (u8s (M2.escape v (s.data.toList.take j))) w2 ∧ Below w.heap.size w w2 := by
        intro add w2 h1 h2 h3
        refine ⟨k + 1, by omega, by go_num, ?_, hbw.trans h3⟩
        rw [htk, u8s_append, h1]
        exact Or.inr h2
      replace fin := Lib.hid fin
      have hWS := fun (x : List UInt8) (h : x.length ≤ 6) => bWriteString w.heap.size w.heap.size (u8s (M2.escape v (s.data.toList.take k))) ⟨x.toArray⟩ wr hI (by rw [u8s_length]; show _ + x.length ≤ _; omega) hB
      have hWB := fun (x : Int) => bWriteByte w.heap.size w.heap.size (u8s (M2.escape v (s.data.toList.take k))) x wr hI (by rw [u8s_length]; omega) hB
      replace hWS := Lib.hid hWS
      replace hWB := Lib.hid hWB
      clear htk hI hle hlt1
      by_cases h38 : s[k] = 38
      · have F := Lib.hid (fin.out [38, 97, 109, 112, 59] · (by rw [h38]; rfl))
        clear fin hWB
        go_wp2_with fail
        refine (hWS.out [38, 97, 109, 112, 59] (by decide)).mono ?_
        rintro e w2 ⟨rfl, hI2, b2, k2⟩
        replace F := Lib.hid (F.out w2 hI2 b2)
        go_wp2
        go_roundw
        case rel => exact F.out
        case measure => simp [intOf]; omega
      have h38b : ((s[k].toNat : Int) == 38) = false := by simp; intro e; exact h38 (UInt8.toNat_inj.1 (by simpa using (by omega : s[k].toNat = 38)))
      by_cases h60 : s[k] = 60
      · have F := Lib.hid (fin.out [38, 108, 116, 59] · (by rw [h60]; rfl))
        clear fin hWB h38
        go_wp2_with fail
        refine (hWS.out [38, 108, 116, 59] (by decide)).mono ?_
        rintro e w2 ⟨rfl, hI2, b2, k2⟩
        replace F := Lib.hid (F.out w2 hI2 b2)
        go_wp2
        go_roundw
        case rel => exact F.out
        case measure => simp [intOf]; omega
      have h60b : ((s[k].toNat : Int) == 60) = false := by simp; intro e; exact h60 (UInt8.toNat_inj.1 (by simpa using (by omega : s[k].toNat = 60)))
      by_cases h62 : s[k] = 62
      · have F := Lib.hid (fin.out [38, 103, 116, 59] · (by rw [h62]; rfl))
        clear fin hWB h38 h60
        go_wp2_with fail
        refine (hWS.out [38, 103, 116, 59] (by decide)).mono ?_
        rintro e w2 ⟨rfl, hI2, b2, k2⟩
        replace F := Lib.hid (F.out w2 hI2 b2)
        go_wp2
        go_roundw
        case rel => exact F.out
        case measure => simp [intOf]; omega
      have h62b : ((s[k].toNat : Int) == 62) = false := by simp; intro e; exact h62 (UInt8.toNat_inj.1 (by simpa using (by omega : s[k].toNat = 62)))
      by_cases h34 : s[k] = 34
      · cases v
        · have F := Lib.hid (fin.out [34] · (by rw [h34]; rfl))
          clear fin hWS h38 h60 h62
          go_wp2_with fail
          refine (hWB.out 34).mono ?_
          rintro e w2 ⟨rfl, hI2, b2, k2⟩
          replace F := Lib.hid (F.out w2 hI2 b2)
          go_wp2
          go_roundw
          case rel => exact F.out
          case measure => simp [intOf]; omega
        · have F := Lib.hid (fin.out [38, 113, 117, 111, 116, 59] · (by rw [h34]; rfl))
          clear fin hWB h38 h60 h62
          go_wp2_with fail
          refine (hWS.out [38, 113, 117, 111, 116, 59] (by decide)).mono ?_
          rintro e w2 ⟨rfl, hI2, b2, k2⟩
          replace F := Lib.hid (F.out w2 hI2 b2)
          go_wp2
          go_roundw
          case rel => exact F.out
          case measure => simp [intOf]; omega
      have h34b : ((s[k].toNat : Int) == 34) = false := by simp; intro e; exact h34 (UInt8.toNat_inj.1 (by simpa using (by omega : s[k].toNat = 34)))
      have F := Lib.hid (fin.out [s[k]] · (by rw [M2.esc, if_neg h38, if_neg h60, if_neg h62, if_neg (fun e => h34 e.1)]))
      clear fin hWS h38 h60 h62 h34
      go_wp2_with fail
      refine (hWB.out (s[k].toNat : Int)).mono ?_
      rintro e w2 ⟨rfl, hI2, b2, k2⟩
      replace F := Lib.hid (F.out w2 hI2 b2)
      go_wp2
      go_roundw
      case rel => exact F.out
      case measure => simp [intOf]; omega
    · go_wp2_with fail
      refine (bString w.heap.size w.heap.size _ _ hI hB).mono ?_
      rintro e W1 ⟨rfl, _, b1, _⟩
      go_wp2
      go_ret
      rw [List.take_of_length_le (show s.data.toList.length ≤ k from by have : s.data.toList.length = s.size := rfl; omega)]
      exact ⟨rfl, hbw.trans b1⟩
end Go.Proofs.YteefodibpjgicaaGreat

/- Package dom: the texts that nodes begin with. -/
namespace Go.Proofs.YteefodibpjgicaaGreat
open Go.RowKit
end Go.Proofs.YteefodibpjgicaaGreat

/- Package dom: Clone. -/
namespace Go.Proofs.YteefodibpjgicaaGreat
open Go.RowKit
/-- Nodes few enough. -/
abbrev Few6 (l : List Nd) : Prop := M3.weight l ≤ 1000000

/-- Five cells laid into a row at element i, and the state of the row while it is filled. -/
theorem set5 (done Z : List Value) (i : Nat) (c0 c1 c2 c3 c4 z0 z1 z2 z3 z4 : Value) (hd : done.length = i * 5) :
    (((((done ++ z0 :: z1 :: z2 :: z3 :: z4 :: Z).set (i * 5) c0).set (i * 5 + 1) c1).set (i * 5 + 2) c2).set (i * 5 + 3) c3).set (i * 5 + 4) c4 = done ++ [c0, c1, c2, c3, c4] ++ Z := by
  rw [← hd]
  simp
theorem own_cell {w : World} {B : Nat} {e : TypeId} {k n g cap : Nat} {xs : List Value} (h : w.ownsRow B e k (.slice (some ⟨g, 0, none⟩) n cap) n xs) (j : Nat) (u : Value) (hu : xs[j]? = some u) : w.cell? ⟨g, j, none⟩ = some u ∧ w.frozen? ⟨g, j, none⟩ = false := by
  refine ⟨by have := h.cells (g := g) rfl j u hu; rwa [add_plain', Nat.zero_add] at this, ?_⟩
  rcases h.2 with ⟨h', _⟩ | ⟨g', cap', cur, h', _, hg, _⟩
  · cases h'
  · cases h'
    simp [World.frozen?, hg]
def put5 (w : World) (g i : Nat) (c0 c1 c2 c3 c4 : Value) : World := ((((w.setCell ⟨g, i * 5, none⟩ c0).setCell ⟨g, i * 5 + 1, none⟩ c1).setCell ⟨g, i * 5 + 2, none⟩ c2).setCell ⟨g, i * 5 + 3, none⟩ c3).setCell ⟨g, i * 5 + 4, none⟩ c4
theorem put5_own {w : World} {B : Nat} {e : TypeId} {n g cap i : Nat} {done Z : List Value} {z0 z1 z2 z3 z4 : Value} (h : w.ownsRow B e 5 (.slice (some ⟨g, 0, none⟩) n cap) n (done ++ z0 :: z1 :: z2 :: z3 :: z4 :: Z)) (hd : done.length = i * 5) (c0 c1 c2 c3 c4 : Value) :
    (put5 w g i c0 c1 c2 c3 c4).ownsRow B e 5 (.slice (some ⟨g, 0, none⟩) n cap) n (done ++ [c0, c1, c2, c3, c4] ++ Z) := by
  have := ((((h.stored (i * 5) c0).1.stored (i * 5 + 1) c1).1.stored (i * 5 + 2) c2).1.stored (i * 5 + 3) c3).1.stored (i * 5 + 4) c4
  rw [set5 _ _ _ _ _ _ _ _ _ _ _ _ _ hd] at this
  exact this.1
theorem put5_far (w : World) (g i : Nat) (c0 c1 c2 c3 c4 : Value) (b : Nat) (h : b ≠ g) : (put5 w g i c0 c1 c2 c3 c4).heap[b]? = w.heap[b]? := by
  unfold put5
  rw [Below.heap_setCell _ _ _ _ (by simpa using h), Below.heap_setCell _ _ _ _ (by simpa using h), Below.heap_setCell _ _ _ _ (by simpa using h), Below.heap_setCell _ _ _ _ (by simpa using h), Below.heap_setCell _ _ _ _ (by simpa using h)]
theorem put5_size (w : World) (g i : Nat) (c0 c1 c2 c3 c4 : Value) : (put5 w g i c0 c1 c2 c3 c4).heap.size = w.heap.size := by simp [put5, World.setCell]
theorem put5_below {B : Nat} {a w : World} (h : Below B a w) (g i : Nat) (c0 c1 c2 c3 c4 : Value) (hg : B ≤ g) : Below B a (put5 w g i c0 c1 c2 c3 c4) :=
  ((((h.setCell (p := ⟨g, i * 5, none⟩) hg c0).setCell (p := ⟨g, i * 5 + 1, none⟩) hg c1).setCell (p := ⟨g, i * 5 + 2, none⟩) hg c2).setCell (p := ⟨g, i * 5 + 3, none⟩) hg c3).setCell (p := ⟨g, i * 5 + 4, none⟩) hg c4
theorem weight_le {x : Nd} {l : List Nd} (h : x ∈ l) : 1 + x.attrs.length + M3.weight x.kids ≤ M3.weight l := by
  induction l with
  | nil => cases h
  | cons y r ih =>
    rw [M3.weight_cons]
    rcases List.mem_cons.1 h with rfl | h
    · omega
    · have := ih h; omega

set_option maxHeartbeats 4000000 in
set_option maxRecDepth 100000 in
theorem domClone (wt : Nat) : ∀ (S : Nat → Prop) (v : Value) (l : List Nd) (w : World), M3.weight l < wt → Few6 l → (∀ b, S b → b < w.heap.size) → RepN S w v l →
    Calls Tryz.prog 211 #[v] w (FreshPost l w) := by
  induction wt with
  | zero => intro S v l w h; omega
  | succ wt ih =>
    intro S v l w hwt hf hS hr
    have hll := M3.length_le_weight l
    obtain ⟨a, cap, rfl⟩ := hr.slice
    obtain ⟨_, hlc, hcm⟩ := hr.len
    by_cases h0 : l.length = 0
    · obtain rfl : l = [] := List.eq_nil_of_length_eq_zero h0
      go_enter Tryz.func211, Tryz.ntmps211
      go_wp2
      go_ret
      exact ⟨_, rfl, ⟨[], [], World.ownsRow_nil _ _ _ _, OwnC.nil _, Span.nil _ _⟩, Below.refl _ _⟩
    have hzb : ((l.length : Int) == 0) = false := by simpa using h0
    obtain ⟨i0, hi0, hz0, hz1, hz2⟩ := info_parts infoN
    obtain ⟨W0, hmk, hownz, hg0⟩ := run_make_full (P := Tryz.prog) (w := w) w.heap.size 25 41 i0 _ 5 Tryz.underlying25 hi0 hz0 hz1 .i64 .i64 l.length (by rw [hz2]; omega) (by unfold maxLen; omega) (Nat.le_refl _)
    have hB0 : Below w.heap.size w W0 := ⟨hg0.os, hg0.tape, hg0.output, hg0.size, fun k hk => hg0.block k hk (by simp)⟩
    have hlz : (madeCells (Value.agg #[.int .i64 0, .string ⟨#[]⟩, .slice none 0 0, .string ⟨#[]⟩, .slice none 0 0]).cells (l.length * 5)).toList.length = l.length * 5 := hownz.1
    generalize (madeCells (Value.agg #[.int .i64 0, .string ⟨#[]⟩, .slice none 0 0, .string ⟨#[]⟩, .slice none 0 0]).cells (l.length * 5)).toList = Z0 at *
    clear hg0 h0
    replace hlz := Lib.hid hlz
    go_enter Tryz.func211, Tryz.ntmps211
    go_wp2
    go_loopw [14] (fun u14 wr => ∃ (i : Nat) (done Z : List Value) (F : List Nat), i ≤ l.length ∧ u14 = .int .i64 (i : Int) ∧ done.length = i * 5 ∧ Z.length = (l.length - i) * 5 ∧ wr.ownsRow w.heap.size 41 5 (.slice (some ⟨w.heap.size, 0, none⟩) l.length l.length) l.length (done ++ Z) ∧ OwnC wr done (l.take i) F ∧ Span (w.heap.size + 1) wr.heap.size F ∧ Below w.heap.size w wr) (fun u14 _ => l.length - (intOf u14).toNat)
    case atStart => exact ⟨0, [], Z0, [], by omega, rfl, rfl, hlz.out, hownz, by simpa using OwnC.nil _, Span.nil _ _, hB0⟩
    case round =>
      obtain ⟨i, done, Z, F, hi, rfl, hd, hZ, hown, hoc, hsp, hb⟩ := hrel
      have hz := hb.size
      have hgl := (hown.lt w.heap.size rfl).2
      by_cases hlt : i < l.length
      · obtain ⟨b, off, va, vk, rfl, hSb, c0, c1, c2, c3, c4, hrv⟩ := (hr.below hS hb).at_ i hlt
        have hbl := hS b hSb
        have htk : l.take (i + 1) = l.take i ++ [l[i]] := List.take_succ_eq_append_getElem hlt
        have hwx := weight_le (List.getElem_mem hlt)
        generalize l[i] = x at *
        obtain ⟨hat, hkd⟩ := hrv
        obtain ⟨a1, cap1, rfl⟩ := hat.slice
        obtain ⟨a2, cap2, rfl⟩ := hkd.slice
        obtain ⟨z0, z1, z2, z3, z4, Z', rfl⟩ : ∃ z0 z1 z2 z3 z4 Z', Z = z0 :: z1 :: z2 :: z3 :: z4 :: Z' := by
          match Z, hZ with
          | z0 :: z1 :: z2 :: z3 :: z4 :: Z', _ => exact ⟨_, _, _, _, _, _, rfl⟩
          | [], h | [_], h | [_, _], h | [_, _, _], h | [_, _, _, _], h => simp at h; omega
        have hbx := (Below.refl wr.heap.size wr).alloc (Nat.le_refl _) (.cells (x.cells (.slice a1 x.attrs.length cap1) (.slice a2 x.kids.length cap2)).toArray 41)
        have hcl := fun W (hbb : Below w.heap.size w W) => domClone1 S x (.slice a1 x.attrs.length cap1) (.slice a2 x.kids.length cap2) W (fun b h => by have := hS b h; have := hbb.size; omega)
        have hrx : ∀ W, Below wr.heap.size wr W → RepV S W x (.slice a1 x.attrs.length cap1) (.slice a2 x.kids.length cap2) := fun W hW => RepV.below (w := wr) (B := wr.heap.size) ⟨hat, hkd⟩ (fun b h => by have := hS b h; omega) hW
        have hihx := fun W h1 h2 => ih S (.slice a2 x.kids.length cap2) x.kids W (by omega) (by show M3.weight x.kids ≤ 1000000; unfold Few6 at hf; omega) h1 h2
        have hcl2 := hcl (wr.alloc (.cells (x.cells (.slice a1 x.attrs.length cap1) (.slice a2 x.kids.length cap2)).toArray 41)) (hb.alloc hz _) (hrx _ hbx) (by unfold Few6 at hf; omega) hihx
        have hkd0 : Hid True := trivial
        clear hcl hrx hihx
        replace hcl2 := Lib.hid hcl2
        replace htk := Lib.hid htk
        replace hd := Lib.hid hd
        replace hZ := Lib.hid hZ
        replace hoc := Lib.hid hoc
        replace hown := Lib.hid hown
        go_wp2_with (fail)
        refine hcl2.out.mono ?_
        rintro e w2 ⟨va2, vk2, zs2, F2, rfl, oa, ok, hoc2, hsp2, hb2⟩
        obtain ⟨a3, cap3, rfl⟩ := own_slice oa
        obtain ⟨a4, cap4, rfl⟩ := own_slice ok
        have hbw2 : Below wr.heap.size wr w2 := hbx.trans (hb2.mono (by simp))
        have own2 := own_keep hown.out (w' := w2) (fun g hg => by
          have h1 : w.heap.size = g := by simpa [Value.ownBlock] using hg
          rw [← h1]; exact hbw2.block _ hgl)
        have hzz : ∀ j u, ([z0, z1, z2, z3, z4] : List Value)[j]? = some u → (done ++ z0 :: z1 :: z2 :: z3 :: z4 :: Z')[i * 5 + j]? = some u := by
          intro j u hu
          rw [List.getElem?_append_right (by have := hd.out; omega), show i * 5 + j - done.length = j by have := hd.out; omega]
          have := (List.getElem?_eq_some_iff.1 hu).1
          simp at this
          match j, this with
          | 0, _ | 1, _ | 2, _ | 3, _ | 4, _ => exact hu
        obtain ⟨y0, g0⟩ := own_cell own2 _ _ (hzz 0 _ rfl)
        obtain ⟨y1, g1⟩ := own_cell own2 _ _ (hzz 1 _ rfl)
        obtain ⟨y2, g2⟩ := own_cell own2 _ _ (hzz 2 _ rfl)
        obtain ⟨y3, g3⟩ := own_cell own2 _ _ (hzz 3 _ rfl)
        obtain ⟨y4, g4⟩ := own_cell own2 _ _ (hzz 4 _ rfl)
        simp only [Nat.add_zero] at y0 g0
        have hbw : Below w.heap.size w w2 := hb.trans (hbw2.mono hz)
        have hzw := hbw2.size
        replace hzz := Lib.hid hzz
        replace own2 := Lib.hid own2
        replace oa := Lib.hid oa
        replace ok := Lib.hid ok
        replace hoc2 := Lib.hid hoc2
        clear hcl2 c0 c1 c2 c3 c4
        go_wp2_with (fail)
        go_roundw
        case rel =>
          have hp := put5_own own2.out hd.out (.int .i64 x.kind) (.string x.name) (.slice a3 x.attrs.length cap3) (.string x.text) (.slice a4 x.kids.length cap4)
          have hfar := put5_far w2 w.heap.size i (.int .i64 x.kind) (.string x.name) (.slice a3 x.attrs.length cap3) (.string x.text) (.slice a4 x.kids.length cap4)
          have hsz5 := put5_size w2 w.heap.size i (.int .i64 x.kind) (.string x.name) (.slice a3 x.attrs.length cap3) (.string x.text) (.slice a4 x.kids.length cap4)
          have hbl5 := put5_below hbw w.heap.size i (.int .i64 x.kind) (.string x.name) (.slice a3 x.attrs.length cap3) (.string x.text) (.slice a4 x.kids.length cap4) (Nat.le_refl _)
          have hsW : wr.heap.size + 1 = (wr.alloc (.cells (x.cells (.slice a1 x.attrs.length cap1) (.slice a2 x.kids.length cap2)).toArray 41)).heap.size := by simp
          rw [← hsW] at hsp2
          refine ⟨i + 1, done ++ [.int .i64 x.kind, .string x.name, .slice a3 x.attrs.length cap3, .string x.text, .slice a4 x.kids.length cap4], Z', F ++ ((Value.slice a3 x.attrs.length cap3).ownBlock.toList ++ ((Value.slice a4 x.kids.length cap4).ownBlock.toList ++ F2)), by omega, by go_num, by simp; have := hd.out; omega, by have := hZ.out; simp at this; omega, ?_, ?_, ?_, hbl5⟩
          · exact hp
          · rw [htk.out]
            have k1 : OwnC (put5 w2 w.heap.size i (.int .i64 x.kind) (.string x.name) (.slice a3 x.attrs.length cap3) (.string x.text) (.slice a4 x.kids.length cap4)) done (l.take i) F :=
              OwnC.keep _ _ _ (fun b hb' => (hfar b (by have := hsp.2 b hb'; omega)).trans (hbw2.block b (hsp.2 b hb').2)) hoc.out
            refine OwnC.append ?_ _ _ _ k1
            have k2 := own_keep oa.out (w' := put5 w2 w.heap.size i (.int .i64 x.kind) (.string x.name) (.slice a3 x.attrs.length cap3) (.string x.text) (.slice a4 x.kids.length cap4)) (fun g hg => hfar g (by have := (oa.out.lt g hg).1; omega))
            have k3 := own_keep ok.out (w' := put5 w2 w.heap.size i (.int .i64 x.kind) (.string x.name) (.slice a3 x.attrs.length cap3) (.string x.text) (.slice a4 x.kids.length cap4)) (fun g hg => hfar g (by have := (ok.out.lt g hg).1; omega))
            have k4 : OwnC (put5 w2 w.heap.size i (.int .i64 x.kind) (.string x.name) (.slice a3 x.attrs.length cap3) (.string x.text) (.slice a4 x.kids.length cap4)) zs2 x.kids F2 := OwnC.keep _ _ _ (fun b hb' => hfar b (by have := hsp2.2 b (by simp [hb']); omega)) hoc2.out
            exact OwnC.cons_iff.2 ⟨_, _, zs2, [], F2, [], rfl, own_base k2 (fun g _ => Nat.zero_le _), own_base k3 (fun g _ => Nat.zero_le _), by simp, k4, OwnC.nil _⟩
          · show Span _ (put5 w2 w.heap.size i (.int .i64 x.kind) (.string x.name) (.slice a3 x.attrs.length cap3) (.string x.text) (.slice a4 x.kids.length cap4)).heap.size _
            rw [hsz5]
            exact Span.append (mid := wr.heap.size) hsp (hsp2.mono (by omega) (Nat.le_refl _)) (by omega) (by omega)
        case measure => simp [intOf]; omega
      · obtain rfl : i = l.length := by omega
        have hZ0 : Z = [] := List.eq_nil_of_length_eq_zero (by rw [hZ]; simp)
        subst hZ0
        rw [List.append_nil] at hown
        rw [List.take_length] at hoc
        replace hown := Lib.hid hown
        replace hoc := Lib.hid hoc
        clear hd hZ
        go_wp2
        go_ret
        refine ⟨_, rfl, ⟨done, F, hown.out, hoc.out, ?_⟩, hb⟩
        exact Span.append (mid := w.heap.size + 1) ⟨by simp [Value.ownBlock], fun b hb' => by simp [Value.ownBlock] at hb'; omega⟩ hsp (by omega) (by omega)
end Go.Proofs.YteefodibpjgicaaGreat

/- Package dom: Merge. -/
namespace Go.Proofs.YteefodibpjgicaaGreat
open Go.RowKit
theorem Fresh.nil (w : World) (B : Nat) : Fresh w B (.slice none 0 0) [] := ⟨[], [], World.ownsRow_nil _ _ _ _, OwnC.nil _, Span.nil _ _⟩
theorem Fresh.base {w : World} {B B' : Nat} {v : Value} {l : List Nd} (h : Fresh w B v l) (hb : B' ≤ B) : Fresh w B' v l := by
  obtain ⟨zs, F, h1, h2, h3⟩ := h
  exact ⟨zs, F, own_base h1 (fun g hg => by have := (h1.lt g hg).1; omega), h2, h3.mono hb (Nat.le_refl _)⟩
theorem Fresh.keep {w w' : World} {B : Nat} {v : Value} {l : List Nd} (h : Fresh w B v l) (hk : ∀ b, B ≤ b → b < w.heap.size → w'.heap[b]? = w.heap[b]?) (hz : w.heap.size ≤ w'.heap.size) : Fresh w' B v l := by
  obtain ⟨zs, F, h1, h2, h3⟩ := h
  exact ⟨zs, F, own_keep h1 (fun g hg => hk g (h1.lt g hg).1 (h1.lt g hg).2), OwnC.keep _ _ _ (fun b hb => hk b (h3.2 b (by simp [hb])).1 (h3.2 b (by simp [hb])).2) h2, h3.mono (Nat.le_refl _) hz⟩
/-- 'append(out, x)' behind nodes that the call has made, nothing shared. -/
theorem Fresh.snoc {W w5 : World} {B mid g n cap : Nat} {u : Value} {A : List Nd} {zs : List Value} {F : List Nat} {x : Nd} {va vk : Value} {zs2 : List Value} {F2 : List Nat} (hn : n = A.length + 1)
    (hown5 : w5.ownsRow B 41 5 (.slice (some ⟨g, 0, none⟩) n cap) n (zs ++ x.cells va vk)) (hgrow : W.grownBy w5 u.ownBlock) (hat : u.ownBlock = some g ∨ W.heap.size ≤ g)
    (hA : OwnC W zs A F) (hsp : Span B mid (u.ownBlock.toList ++ F))
    (ha : W.ownsRow 0 43 2 va x.attrs.length (cellsA x.attrs)) (hk : W.ownsRow 0 41 5 vk x.kids.length zs2) (hc : OwnC W zs2 x.kids F2) (hsp2 : Span mid W.heap.size (va.ownBlock.toList ++ (vk.ownBlock.toList ++ F2))) (hBm : B ≤ mid) (hm : mid ≤ W.heap.size) :
    Fresh w5 B (.slice (some ⟨g, 0, none⟩) n cap) (A ++ [x]) := by
  subst hn
  have hall : Span B W.heap.size (u.ownBlock.toList ++ F ++ (va.ownBlock.toList ++ (vk.ownBlock.toList ++ F2))) := Span.append hsp hsp2 hBm hm
  have hg5 := (hown5.lt g rfl)
  have hkeep : ∀ b ∈ F ++ (va.ownBlock.toList ++ (vk.ownBlock.toList ++ F2)), w5.heap[b]? = W.heap[b]? := by
    intro b hb
    refine hgrow.block b (hall.2 b (by rcases List.mem_append.1 hb with h | h <;> simp [h])).2 (fun e => ?_)
    have hnd := hall.1
    rw [List.append_assoc] at hnd
    have := (List.nodup_append.1 hnd).2.2 b (by rw [← e]; simp) b hb
    exact this rfl
  have hgn : g ∉ F ++ (va.ownBlock.toList ++ (vk.ownBlock.toList ++ F2)) := by
    intro hb
    rcases hat with h | h
    · have hnd := hall.1
      rw [List.append_assoc] at hnd
      exact (List.nodup_append.1 hnd).2.2 g (by rw [h]; simp) g hb rfl
    · have := (hall.2 g (by rcases List.mem_append.1 hb with h | h <;> simp [h])).2
      omega
  refine ⟨zs ++ x.cells va vk, F ++ (va.ownBlock.toList ++ (vk.ownBlock.toList ++ F2)), by simpa using hown5, ?_, ?_⟩
  · refine OwnC.append ?_ _ _ _ (OwnC.keep _ _ _ (fun b hb => hkeep b (by simp [hb])) hA)
    exact OwnC.cons_iff.2 ⟨va, vk, zs2, [], F2, [], by simp, own_keep ha (fun b hb => hkeep b (by simp [hb])), own_keep hk (fun b hb => hkeep b (by simp [hb])), by simp, OwnC.keep _ _ _ (fun b hb => hkeep b (by simp [hb])) hc, OwnC.nil _⟩
  · have hs := hgrow.size
    refine ⟨?_, fun b hb => ?_⟩
    · show (g :: (F ++ (va.ownBlock.toList ++ (vk.ownBlock.toList ++ F2)))).Nodup
      refine List.nodup_cons.2 ⟨hgn, ?_⟩
      have hnd := hall.1
      rw [List.append_assoc] at hnd
      exact (List.nodup_append.1 hnd).2.1
    · rcases List.mem_append.1 hb with h | h
      · have : b = g := by simpa [Value.ownBlock] using h
        subst this
        exact hg5
      · have := hall.2 b (by rcases List.mem_append.1 h with h | h <;> simp [h])
        omega

end Go.Proofs.YteefodibpjgicaaGreat

/- The reference of layer 3: merged, of nodes that the call has made, nothing shared. -/
namespace Go.Proofs.YteefodibpjgicaaGreat
open Go.RowKit
theorem OwnC.nv {w : World} (l : List Nd) : ∀ (xs : List Value) (F : List Nat), OwnC w xs l F → ∃ L : List NV, L.map NV.x = l ∧ xs = cellsV L ∧ ∀ b ∈ L, b.ok := by
  induction l using Nd.ind with
  | h0 => intro xs F h; rw [OwnC] at h; exact ⟨[], rfl, h.1, fun b hb => by cases hb⟩
  | h1 k n ats t ks r _ ih2 =>
    intro xs F h
    obtain ⟨va, vk, zs, ys, F1, F2, rfl, h2, h3, rfl, h5, h6⟩ := OwnC.cons_iff.1 h
    obtain ⟨L, rfl, rfl, hL⟩ := ih2 _ _ h6
    refine ⟨⟨.mk k n ats t ks, va, vk⟩ :: L, rfl, rfl, fun b hb => ?_⟩
    rcases List.mem_cons.1 hb with rfl | hb
    · exact ⟨own_slice h2, own_slice h3⟩
    · exact hL b hb

theorem OwnC.one {w : World} {b : NV} {F : List Nat} (h : OwnC w b.cells [b.x] F) : ∃ zs F1, w.ownsRow 0 43 2 b.va b.x.attrs.length (cellsA b.x.attrs) ∧ w.ownsRow 0 41 5 b.vk b.x.kids.length zs ∧ F = b.va.ownBlock.toList ++ (b.vk.ownBlock.toList ++ F1) ∧ OwnC w zs b.x.kids F1 := by
  obtain ⟨va, vk, zs, ys, F1, F2, h1, h2, h3, rfl, h5, h6⟩ := OwnC.cons_iff.1 h
  rw [OwnC] at h6
  obtain ⟨rfl, rfl⟩ := h6
  obtain ⟨x, va', vk'⟩ := b
  cases h1
  exact ⟨zs, F1, h2, h3, by simp, h5⟩

theorem OwnC.mk_one {w : World} {b : NV} {zs : List Value} {F1 : List Nat} (h2 : w.ownsRow 0 43 2 b.va b.x.attrs.length (cellsA b.x.attrs)) (h3 : w.ownsRow 0 41 5 b.vk b.x.kids.length zs) (h5 : OwnC w zs b.x.kids F1) :
    OwnC w b.cells [b.x] (b.va.ownBlock.toList ++ (b.vk.ownBlock.toList ++ F1)) :=
  OwnC.cons_iff.2 ⟨b.va, b.vk, zs, [], F1, [], by simp, h2, h3, by simp, h5, OwnC.nil _⟩

theorem OwnC.split {w : World} {m : List Nd} {ys : List Value} (l : List Nd) : ∀ (xs : List Value) (F : List Nat), xs.length = l.length * 5 → OwnC w (xs ++ ys) (l ++ m) F → ∃ F1 F2, F = F1 ++ F2 ∧ OwnC w xs l F1 ∧ OwnC w ys m F2 := by
  induction l using Nd.ind with
  | h0 =>
    intro xs F hl h
    obtain rfl : xs = [] := List.eq_nil_of_length_eq_zero (by simpa using hl)
    exact ⟨[], F, rfl, OwnC.nil _, h⟩
  | h1 k n ats t ks r _ ih2 =>
    intro xs F hl h
    obtain ⟨va, vk, zs, ys', F1, F2, h1, h2, h3, rfl, h5, h6⟩ := OwnC.cons_iff.1 h
    obtain ⟨xs', rfl⟩ : ∃ xs', xs = (Nd.mk k n ats t ks).cells va vk ++ xs' := by
      match xs, hl, h1 with
      | c0 :: c1 :: c2 :: c3 :: c4 :: xs', _, h1 =>
        simp only [List.cons_append, List.cons.injEq, List.nil_append] at h1
        obtain ⟨rfl, rfl, rfl, rfl, rfl, _⟩ := h1
        exact ⟨xs', rfl⟩
      | [], hl, _ | [_], hl, _ | [_, _], hl, _ | [_, _, _], hl, _ | [_, _, _, _], hl, _ => exact absurd hl (by simp <;> omega)
    rw [List.append_assoc] at h1
    have h1' : xs' ++ ys = ys' := List.append_cancel_left h1
    subst h1'
    obtain ⟨G1, G2, rfl, g1, g2⟩ := ih2 xs' F2 (by simp at hl; omega) h6
    exact ⟨_, G2, (by rw [← List.append_assoc]), OwnC.cons_iff.2 ⟨va, vk, zs, xs', F1, G1, rfl, h2, h3, rfl, h5, g1⟩, g2⟩

theorem OwnC.text {w : World} {b : NV} {F : List Nat} (t : ByteArray) (h : OwnC w b.cells [b.x] F) : OwnC w (b.withText t).cells [(b.withText t).x] F := by
  obtain ⟨zs, F1, h1, h2, rfl, h4⟩ := h.one
  obtain ⟨⟨k, n, ats, t0, ks⟩, va, vk⟩ := b
  exact OwnC.mk_one (b := ⟨.mk k n ats t ks, va, vk⟩) h1 h2 h4

end Go.Proofs.YteefodibpjgicaaGreat

/- Package dom: Merge, walked. -/
namespace Go.Proofs.YteefodibpjgicaaGreat
open Go.RowKit
end Go.Proofs.YteefodibpjgicaaGreat

/- Package dom: the same. -/
namespace Go.Proofs.YteefodibpjgicaaGreat
open Go.RowKit
def oneSame (x y : Nd) : Bool := x.kind == y.kind && M3.eqB x.name y.name && M3.eqB x.text y.text && M3.sameA x.attrs y.attrs && M3.sameN x.kids y.kids
theorem sameA_drop (a b : List Att) (i : Nat) (h : i < a.length) (h2 : i < b.length) : M3.sameA (a.drop i) (b.drop i) = (M3.eqB a[i].name b[i].name && M3.eqB a[i].value b[i].value && M3.sameA (a.drop (i + 1)) (b.drop (i + 1))) := by
  rw [List.drop_eq_getElem_cons h, List.drop_eq_getElem_cons h2, M3.sameA]
theorem sameN_drop (a b : List Nd) (i : Nat) (h : i < a.length) (h2 : i < b.length) : M3.sameN (a.drop i) (b.drop i) = (oneSame a[i] b[i] && M3.sameN (a.drop (i + 1)) (b.drop (i + 1))) := by
  rw [List.drop_eq_getElem_cons h, List.drop_eq_getElem_cons h2, M3.sameN_cons]; rfl

set_option maxHeartbeats 2000000 in
set_option maxRecDepth 100000 in
theorem slEqual (S : Nat → Prop) (a b : List Att) (va vb : Value) (w : World) (hS : ∀ b, S b → b < w.heap.size) (ha : Row S w 2 va a.length (cellsA a)) (hb : Row S w 2 vb b.length (cellsA b)) :
    Calls Tryz.prog 79 #[va, vb] w fun e w' => e = .returned (.bool (M3.sameA a b)) ∧ Below w.heap.size w w' := by
  obtain ⟨a1, cap1, rfl⟩ := ha.slice
  obtain ⟨a2, cap2, rfl⟩ := hb.slice
  obtain ⟨_, hl1, hm1⟩ := ha.len
  obtain ⟨_, hl2, hm2⟩ := hb.len
  by_cases hne : a.length = b.length
  · have hz : ((a.length : Int) == (b.length : Int)) = true := by simp [hne]
    have h0 : Hid (M3.sameA a b = M3.sameA (a.drop 0) (b.drop 0)) := rfl
    replace hne := Lib.hid hne
    go_enter Tryz.func79, Tryz.ntmps79
    go_wp2
    go_loopw [5, 13] (fun _ u13 wr => ∃ i : Nat, i ≤ a.length ∧ u13 = .int .i64 (i : Int) ∧ Hid (M3.sameA a b = M3.sameA (a.drop i) (b.drop i)) ∧ Below w.heap.size w wr) (fun _ u13 _ => a.length - (intOf u13).toNat)
    case atStart => exact ⟨0, by omega, rfl, h0, Below.refl _ _⟩
    case round =>
      obtain ⟨i, hi, rfl, hv, hbw⟩ := hrel
      clear h0
      by_cases hlt : i < a.length
      · have hlt2 : i < b.length := by have := hne.out; omega
        have hI0 : (0 : Int) ≤ (i : Int) := by omega
        have hI1 : (i : Int) < (a.length : Int) := by omega
        have hI2 : (i : Int) < (b.length : Int) := by omega
        obtain ⟨b1, off1, rfl, hS1, c0, c1⟩ := (ha.below hS hbw).atA i hlt
        obtain ⟨b2, off2, rfl, hS2, d0, d1⟩ := (hb.below hS hbw).atA i hlt2
        have hsd := sameA_drop a b i hlt hlt2
        generalize a[i].name = n1 at *
        generalize a[i].value = x1 at *
        generalize b[i].name = n2 at *
        generalize b[i].value = x2 at *
        replace hsd := Lib.hid hsd
        have q1 : M3.eqB n1 n2 = (n1.toList == n2.toList) := rfl
        have q2 : M3.eqB x1 x2 = (x1.toList == x2.toList) := rfl
        replace hsd := hsd.out
        cases he1 : (n1.toList == n2.toList)
        · have hsd : M3.sameA (a.drop i) (b.drop i) = false := by rw [hsd, q1, he1]; rfl
          clear q1 q2
          replace hsd := Lib.hid (hv.out.trans hsd)
          clear hv
          go_wp2_with (fail)
          go_region_held3 (fun w' => w'.cell? ⟨b1, off1 + i * 2, none⟩ = some (.string n1) ∧ w'.cell? ⟨b1, off1 + i * 2 + 1, none⟩ = some (.string x1) ∧ w'.cell? ⟨b2, off2 + i * 2, none⟩ = some (.string n2) ∧ w'.cell? ⟨b2, off2 + i * 2 + 1, none⟩ = some (.string x2))
            (first
              | go_keep
              | assumption)
            (first
              | fail)
          go_wp2_with (fail)
          go_ret
          exact ⟨by rw [hsd.out]; rfl, hbw.trans ((Below.refl _ wr).drew.mono (by have := hbw.size; omega))⟩
        · cases he2 : (x1.toList == x2.toList)
          · have hsd : M3.sameA (a.drop i) (b.drop i) = false := by rw [hsd, q1, q2, he1, he2]; rfl
            clear q1 q2
            replace hsd := Lib.hid (hv.out.trans hsd)
            clear hv
            go_wp2_with (fail)
            go_region_held3 (fun w' => w'.cell? ⟨b1, off1 + i * 2, none⟩ = some (.string n1) ∧ w'.cell? ⟨b1, off1 + i * 2 + 1, none⟩ = some (.string x1) ∧ w'.cell? ⟨b2, off2 + i * 2, none⟩ = some (.string n2) ∧ w'.cell? ⟨b2, off2 + i * 2 + 1, none⟩ = some (.string x2))
              (first
                | go_keep
                | assumption)
              (first
                | fail)
            go_wp2_with (fail)
            go_ret
            exact ⟨by rw [hsd.out]; rfl, hbw.trans ((Below.refl _ wr).drew.mono (by have := hbw.size; omega))⟩
          · have hsd : M3.sameA (a.drop i) (b.drop i) = M3.sameA (a.drop (i + 1)) (b.drop (i + 1)) := by rw [hsd, q1, q2, he1, he2]; rfl
            clear q1 q2
            replace hsd := Lib.hid (hv.out.trans hsd)
            clear hv
            go_wp2_with (fail)
            go_region_held3 (fun w' => w'.cell? ⟨b1, off1 + i * 2, none⟩ = some (.string n1) ∧ w'.cell? ⟨b1, off1 + i * 2 + 1, none⟩ = some (.string x1) ∧ w'.cell? ⟨b2, off2 + i * 2, none⟩ = some (.string n2) ∧ w'.cell? ⟨b2, off2 + i * 2 + 1, none⟩ = some (.string x2))
              (first
                | go_keep
                | assumption)
              (first
                | fail)
            go_wp2_with (fail)
            go_roundw
            case rel => exact ⟨i + 1, by omega, by go_num, hsd.out, hbw.trans ((Below.refl _ wr).drew.mono (by have := hbw.size; omega))⟩
            case measure => simp [intOf]; omega
      · obtain rfl : i = a.length := by omega
        have hs : Hid (M3.sameA a b = true) := by
          show _ = _
          rw [hv.out, List.drop_length, hne.out, List.drop_length]; rfl
        clear hv
        go_wp2
        go_ret
        exact ⟨by rw [hs.out]; rfl, hbw⟩
  · have hs : Hid (M3.sameA a b = false) := M3.sameA_len a b hne
    have hz : ((a.length : Int) == (b.length : Int)) = false := by simpa using fun h => hne (by omega)
    go_enter Tryz.func79, Tryz.ntmps79
    go_wp2
    go_ret
    exact ⟨by rw [hs.out]; rfl, Below.refl _ _⟩
end Go.Proofs.YteefodibpjgicaaGreat

/- Package dom: the same, walked on. -/
namespace Go.Proofs.YteefodibpjgicaaGreat
open Go.RowKit
def SamePost (r : Bool) (w : World) (e : Ending) (w' : World) : Prop := e = .returned (.bool r) ∧ Below w.heap.size w w'

set_option maxHeartbeats 4000000 in
set_option maxRecDepth 100000 in
theorem domAlike (S : Nat → Prop) (x y : Nd) (va vk vb vl : Value) (w : World) (hS : ∀ b, S b → b < w.heap.size) (hx : RepV S w x va vk) (hy : RepV S w y vb vl)
    (ih : ∀ W, Below w.heap.size w W → Calls Tryz.prog 38 #[vk, vl] W (SamePost (M3.sameN x.kids y.kids) W)) :
    Calls Tryz.prog 57 #[x.val va vk, y.val vb vl] w (SamePost (oneSame x y) w) := by
  obtain ⟨a1, c1, rfl⟩ := hx.at_.slice
  obtain ⟨a2, c2, rfl⟩ := hx.kids.slice
  obtain ⟨a3, c3, rfl⟩ := hy.at_.slice
  obtain ⟨a4, c4, rfl⟩ := hy.kids.slice
  have hsame : oneSame x y = (x.kind == y.kind && (x.name.toList == y.name.toList) && (x.text.toList == y.text.toList) && M3.sameA x.attrs y.attrs && M3.sameN x.kids y.kids) := rfl
  have hB : Below w.heap.size w ((w.alloc (.cells (x.cells (.slice a1 x.attrs.length c1) (.slice a2 x.kids.length c2)).toArray 41)).alloc (.cells (y.cells (.slice a3 y.attrs.length c3) (.slice a4 y.kids.length c4)).toArray 41)) := ((Below.refl _ w).alloc (Nat.le_refl _) _).alloc (by simp) _
  have hq := Lib.hid (fun W (hW : Below w.heap.size w W) => slEqual S x.attrs y.attrs _ _ W (fun b h => by have := hS b h; have := hW.size; omega) (hx.at_.below hS hW) (hy.at_.below hS hW))
  have b0 := (Box.new w 41 (x.cells (.slice a1 x.attrs.length c1) (.slice a2 x.kids.length c2))).alloc (.cells (y.cells (.slice a3 y.attrs.length c3) (.slice a4 y.kids.length c4)).toArray 41)
  have b1 := Box.new (w.alloc (.cells (x.cells (.slice a1 x.attrs.length c1) (.slice a2 x.kids.length c2)).toArray 41)) 41 (y.cells (.slice a3 y.attrs.length c3) (.slice a4 y.kids.length c4))
  simp only [World.size_alloc] at b1
  replace ih := Lib.hid ih
  obtain ⟨r1, hr1⟩ : ∃ r1, M3.sameA x.attrs y.attrs = r1 := ⟨_, rfl⟩
  obtain ⟨r2, hr2⟩ : ∃ r2, M3.sameN x.kids y.kids = r2 := ⟨_, rfl⟩
  rw [hr1] at hsame hq
  rw [hr2] at hsame ih
  clear hr1 hr2
  clear hx hy hS
  cases x with | mk k1 n1 ats1 t1 ks1 =>
  cases y with | mk k2 n2 ats2 t2 ks2 =>
  simp only [Nd.kind, Nd.name, Nd.text, Nd.attrs, Nd.kids, Nd.cells, Nd.val] at *
  cases he1 : (k1 == k2)
  · have hs : Hid (oneSame (.mk k1 n1 ats1 t1 ks1) (.mk k2 n2 ats2 t2 ks2) = false) := by show _ = _; rw [hsame, he1]; rfl
    have he : decide (k1 = k2) = false := by simpa using he1
    clear hsame
    go_enter Tryz.func57, Tryz.ntmps57
    go_wp2_with (fail)
    go_ret
    exact ⟨by rw [hs.out]; rfl, hB⟩
  · have he : k1 = k2 := by simpa using he1
    subst he
    cases he2 : (n1.toList == n2.toList)
    · have hs : Hid (oneSame (.mk k1 n1 ats1 t1 ks1) (.mk k1 n2 ats2 t2 ks2) = false) := by show _ = _; rw [hsame, he1, he2]; rfl
      clear hsame
      go_enter Tryz.func57, Tryz.ntmps57
      go_wp2_with (fail)
      go_ret
      exact ⟨by rw [hs.out]; rfl, hB⟩
    · cases he3 : (t1.toList == t2.toList)
      · have hs : Hid (oneSame (.mk k1 n1 ats1 t1 ks1) (.mk k1 n2 ats2 t2 ks2) = false) := by show _ = _; rw [hsame, he1, he2, he3]; rfl
        clear hsame
        go_enter Tryz.func57, Tryz.ntmps57
        go_wp2_with (fail)
        go_ret
        exact ⟨by rw [hs.out]; rfl, hB⟩
      · rw [he1, he2, he3] at hsame
        replace hsame := Lib.hid hsame
        go_enter Tryz.func57, Tryz.ntmps57
        go_wp2_with (fail)
        refine (hq.out _ hB).mono ?_
        rintro e w1 ⟨rfl, hb1⟩
        have e0 := b0.below hb1 b0.lt
        have e1 := b1.below hb1 b1.lt
        have d0 := e0.cell (i := 4) rfl
        have d1 := e1.cell (i := 4) rfl
        have hB1 := hB.trans (hb1.mono (by simp; omega))
        clear b0 b1 e0 e1 hq
        cases r1
        · go_wp2_with (fail)
          go_ret
          exact ⟨by rw [hsame.out]; rfl, hB1⟩
        · go_wp2_with (fail)
          refine (ih.out _ hB1).mono ?_
          rintro e w2 ⟨rfl, hb2⟩
          have hz1 := hB1.size
          go_wp2_with (fail)
          go_ret
          exact ⟨by rw [hsame.out]; cases r2 <;> rfl, hB1.trans (hb2.mono hz1)⟩
end Go.Proofs.YteefodibpjgicaaGreat

/- Package dom: Same. -/
namespace Go.Proofs.YteefodibpjgicaaGreat
open Go.RowKit
def Alikes (S : Nat → Prop) (a : List Nd) : Prop := ∀ x ∈ a, ∀ (y : Nd) (va vk vb vl : Value) (W : World), (∀ b, S b → b < W.heap.size) → RepV S W x va vk → RepV S W y vb vl → Calls Tryz.prog 57 #[x.val va vk, y.val vb vl] W (SamePost (oneSame x y) W)

set_option maxHeartbeats 4000000 in
set_option maxRecDepth 100000 in
theorem slEqualFunc (S : Nat → Prop) (a b : List Nd) (va vb : Value) (w : World) (hS : ∀ b, S b → b < w.heap.size) (ha : RepN S w va a) (hb : RepN S w vb b) (hal : Alikes S a) :
    Calls Tryz.prog 56 #[va, vb, .func (.func 57) #[] #[]] w (SamePost (M3.sameN a b) w) := by
  obtain ⟨a1, cap1, rfl⟩ := ha.slice
  obtain ⟨a2, cap2, rfl⟩ := hb.slice
  obtain ⟨_, hl1, hm1⟩ := ha.len
  obtain ⟨_, hl2, hm2⟩ := hb.len
  replace hal := Lib.hid hal
  by_cases hne : a.length = b.length
  · have hz : ((a.length : Int) == (b.length : Int)) = true := by simp [hne]
    have h0 : Hid (M3.sameN a b = M3.sameN (a.drop 0) (b.drop 0)) := rfl
    replace hne := Lib.hid hne
    go_enter Tryz.func56, Tryz.ntmps56
    go_wp2
    go_loopw [17] (fun u17 wr => ∃ i : Nat, i ≤ a.length ∧ u17 = .int .i64 (i : Int) ∧ Hid (M3.sameN a b = M3.sameN (a.drop i) (b.drop i)) ∧ Below w.heap.size w wr) (fun u17 _ => a.length - (intOf u17).toNat)
    case atStart => exact ⟨0, by omega, rfl, h0, Below.refl _ _⟩
    case round =>
      obtain ⟨i, hi, rfl, hv, hbw⟩ := hrel
      clear h0
      have hzw := hbw.size
      by_cases hlt : i < a.length
      · have hlt2 : i < b.length := by have := hne.out; omega
        have hI0 : (0 : Int) ≤ (i : Int) := by omega
        have hI1 : (i : Int) < (a.length : Int) := by omega
        have hI2 : (i : Int) < (b.length : Int) := by omega
        obtain ⟨b1, off1, va, vk, rfl, hS1, c0, c1, c2, c3, c4, hrx⟩ := (ha.below hS hbw).at_ i hlt
        obtain ⟨b2, off2, vb, vl, rfl, hS2, d0, d1, d2, d3, d4, hry⟩ := (hb.below hS hbw).at_ i hlt2
        have hsd := sameN_drop a b i hlt hlt2
        have hax := hal.out a[i] (List.getElem_mem hlt)
        generalize a[i] = x at *
        generalize b[i] = y at *
        obtain ⟨a5, c5, rfl⟩ := hrx.at_.slice
        obtain ⟨a6, c6, rfl⟩ := hrx.kids.slice
        obtain ⟨a7, c7, rfl⟩ := hry.at_.slice
        obtain ⟨a8, c8, rfl⟩ := hry.kids.slice
        have hx1 := (Below.refl wr.heap.size wr).alloc (Nat.le_refl _) (.cells (x.cells (.slice a5 x.attrs.length c5) (.slice a6 x.kids.length c6)).toArray 41)
        have hl2 : b2 < wr.heap.size := by have := hS b2 hS2; omega
        have d0' := (hx1.cell (p := ⟨b2, off2 + i * 5, none⟩) hl2).trans d0
        have d1' := (hx1.cell (p := ⟨b2, off2 + i * 5 + 1, none⟩) hl2).trans d1
        have d2' := (hx1.cell (p := ⟨b2, off2 + i * 5 + 2, none⟩) hl2).trans d2
        have d3' := (hx1.cell (p := ⟨b2, off2 + i * 5 + 3, none⟩) hl2).trans d3
        have d4' := (hx1.cell (p := ⟨b2, off2 + i * 5 + 4, none⟩) hl2).trans d4
        have hB2 := hx1.alloc (by simp) (.cells (y.cells (.slice a7 y.attrs.length c7) (.slice a8 y.kids.length c8)).toArray 41)
        have hcall := Lib.hid (hax y _ _ _ _ ((wr.alloc (.cells (x.cells (.slice a5 x.attrs.length c5) (.slice a6 x.kids.length c6)).toArray 41)).alloc (.cells (y.cells (.slice a7 y.attrs.length c7) (.slice a8 y.kids.length c8)).toArray 41)) (fun b h => by have := hS b h; have := hB2.size; omega) (RepV.below (w := wr) (B := wr.heap.size) hrx (fun b h => by have := hS b h; omega) hB2) (RepV.below (w := wr) (B := wr.heap.size) hry (fun b h => by have := hS b h; omega) hB2))
        replace hsd := Lib.hid (hv.out.trans hsd)
        generalize oneSame x y = r at *
        clear hax hv hrx hry
        go_wp2_with (fail)
        refine hcall.out.mono ?_
        rintro e w2 ⟨rfl, hb2⟩
        have hbr : Below wr.heap.size wr w2 := hB2.trans (hb2.mono (by simp; omega))
        clear c0 c1 c2 c3 c4 d0 d1 d2 d3 d4 d0' d1' d2' d3' d4' hcall
        cases r
        · go_wp2_with (fail)
          go_ret
          exact ⟨by rw [hsd.out]; rfl, hbw.trans (hbr.mono hzw)⟩
        · go_wp2_with (fail)
          go_roundw
          case rel => exact ⟨i + 1, by omega, by go_num, by rw [hsd.out]; rfl, hbw.trans (hbr.mono hzw)⟩
          case measure => simp [intOf]; omega
      · obtain rfl : i = a.length := by omega
        have hs : Hid (M3.sameN a b = true) := by
          show _ = _
          rw [hv.out, List.drop_length, hne.out, List.drop_length]; exact M3.sameN_nil
        clear hv
        go_wp2
        go_ret
        exact ⟨by rw [hs.out]; rfl, hbw⟩
  · have hs : Hid (M3.sameN a b = false) := M3.sameN_len a b hne
    have hz : ((a.length : Int) == (b.length : Int)) = false := by simpa using fun h => hne (by omega)
    go_enter Tryz.func56, Tryz.ntmps56
    go_wp2
    go_ret
    exact ⟨by rw [hs.out]; rfl, Below.refl _ _⟩

set_option maxHeartbeats 1000000 in
theorem domSame (wt : Nat) : ∀ (S : Nat → Prop) (a b : List Nd) (va vb : Value) (w : World), M3.weight a < wt → (∀ b, S b → b < w.heap.size) → RepN S w va a → RepN S w vb b → Calls Tryz.prog 38 #[va, vb] w (SamePost (M3.sameN a b) w) := by
  induction wt with
  | zero => intro S a b va vb w h; omega
  | succ wt ih =>
    intro S a b va vb w hwt hS ha hb
    have hE := Lib.hid (slEqualFunc S a b va vb w hS ha hb (fun x hx y va vk vb vl W hSW hrx hry => domAlike S x y va vk vb vl W hSW hrx hry (fun W2 hW2 => ih S x.kids y.kids vk vl W2 (by have := weight_mem hx; omega) (fun b h => by have := hSW b h; have := hW2.size; omega) (hrx.kids.below hSW hW2) (hry.kids.below hSW hW2))))
    obtain ⟨a1, cap1, rfl⟩ := ha.slice
    obtain ⟨a2, cap2, rfl⟩ := hb.slice
    clear ih
    go_enter Tryz.func38, Tryz.ntmps38
    go_wp2_with (fail)
    refine hE.out.mono ?_
    rintro e w1 ⟨rfl, hb1⟩
    go_wp2
    go_ret
    exact ⟨rfl, hb1⟩
end Go.Proofs.YteefodibpjgicaaGreat

/- The reference of layer 3: the same. -/
namespace Go.Proofs.YteefodibpjgicaaGreat
open Go.RowKit

end Go.Proofs.YteefodibpjgicaaGreat

/- Layer 3: few nodes are few, and light. -/
namespace Go.Proofs.YteefodibpjgicaaGreat
open Go.RowKit
end Go.Proofs.YteefodibpjgicaaGreat

/- Layer 3: merged nodes are the document's, and merged again the same. -/
namespace Go.Proofs.YteefodibpjgicaaGreat
open Go.RowKit
theorem weight_push (out : List Nd) (x : Nd) : M3.weight (M3.push out x) ≤ M3.weight out + M3.weight [x] := by
  cases h : M3.bareB x
  · rcases List.eq_nil_or_concat out with rfl | ⟨o, y, rfl⟩
    · rw [M3.push_none h]; omega
    · rw [List.concat_eq_append, M3.push_snoc h]
      split
      · rw [M3.weight_append, M3.weight_append]
        have : M3.weight [M3.withText y (M3.cat y.text x.text)] = M3.weight [y] := by
          rw [M3.weight_cons, M3.weight_cons, M3.withText_attrs, M3.withText_kids]
        omega
      · rw [M3.weight_append]; omega
  · rw [M3.push_bare h]; omega
end Go.Proofs.YteefodibpjgicaaGreat

/- The reference of layer 3: which nodes may be. -/
namespace Go.Proofs.YteefodibpjgicaaGreat
open Go.RowKit
def seenA (ats : List Att) (i : Nat) : List ByteArray := (ats.take i).map Att.name

theorem seenA_len (ats : List Att) (i : Nat) (h : i ≤ ats.length) : (seenA ats i).length = i := by simp [seenA]; omega

theorem seenA_get (ats : List Att) (i k : Nat) (hk : k < i) (hi : i ≤ ats.length) : (seenA ats i)[k]? = some ats[k].name := by
  unfold seenA
  rw [List.getElem?_map, List.getElem?_take, if_pos hk, List.getElem?_eq_getElem (by omega)]
  rfl

theorem names_at' (ats : List Att) (i : Nat) (h : i < ats.length) : M3.namesE (seenA ats i) (ats.drop i) = if M3.attributedB ats[i].name.data.toList then (if (seenA ats i).any (M3.eqB ats[i].name) then 5 else M3.namesE (seenA ats (i + 1)) (ats.drop (i + 1))) else 4 := by
  have htk : seenA ats (i + 1) = seenA ats i ++ [ats[i].name] := by
    unfold seenA
    rw [List.take_succ_eq_append_getElem h, List.map_append]; rfl
  rw [List.drop_eq_getElem_cons h, M3.namesE, htk]

theorem values_at (ats : List Att) (i : Nat) (h : i < ats.length) : M3.valuesE (ats.drop i) = if M1.isB ats[i].value.data.toList then M3.valuesE (ats.drop (i + 1)) else 2 := by
  rw [List.drop_eq_getElem_cons h, M3.valuesE]

theorem any_at {l : List ByteArray} {p : ByteArray → Bool} {k : Nat} {s : ByteArray} (h : l[k]? = some s) (hp : p s = true) : l.any p = true :=
  List.any_eq_true.2 ⟨s, List.mem_of_getElem? h, hp⟩

theorem eqB_comm (s t : ByteArray) : M3.eqB s t = (t.toList == s.toList) := by
  unfold M3.eqB
  rw [Bool.eq_iff_iff, beq_iff_eq, beq_iff_eq]
  exact eq_comm

def IntPost (n : Int) (w : World) (e : Ending) (w' : World) : Prop := e = .returned (.int .i64 n) ∧ Below w.heap.size w w'

set_option maxHeartbeats 8000000 in
set_option maxRecDepth 100000 in
theorem ref03Element (S : Nat → Prop) (x : Nd) (va vk : Value) (w : World) (hS : ∀ b, S b → b < w.heap.size) (hx : RepV S w x va vk) (hf : Fit1 x) :
    Calls Tryz.prog 51 #[x.val va vk] w (IntPost (M3.elemE x) w) := by
  obtain ⟨hat, hkd⟩ := hx
  obtain ⟨a, cap, rfl⟩ := hat.slice
  obtain ⟨_, hlc, hcm⟩ := hat.len
  obtain ⟨a2, cap2, rfl⟩ := hkd.slice
  cases x with | mk k n ats t ks =>
  obtain ⟨hf1, hf2, hf3, _⟩ := hf
  simp only [Nd.val, Nd.kind, Nd.name, Nd.text, Nd.attrs, Nd.kids] at *
  have hb0 := (Below.refl w.heap.size w).alloc (Nat.le_refl _) (.cells #[.int .i64 k, .string n, .slice a ats.length cap, .string t, .slice a2 ks.length cap2] 41)
  have hbx0 := Box.new w 41 [.int .i64 k, .string n, .slice a ats.length cap, .string t, .slice a2 ks.length cap2]
  have hNa := Lib.hid (fun W => ref03Named n W (by omega))
  have hr : M3.elemE (.mk k n ats t ks) = if t.toList.isEmpty then (if M3.namedB n.data.toList then (if M3.namesE [] ats = 0 then M3.valuesE ats else M3.namesE [] ats) else 4) else 7 := rfl
  generalize M3.namedB n.data.toList = p at *
  cases hte : t.toList.isEmpty
  · rw [hte] at hr
    replace hr : Hid (M3.elemE (.mk k n ats t ks) = 7) := hr
    go_enter Tryz.func51, Tryz.ntmps51
    go_wp2_with fail
    refine (hNa.out _).mono ?_
    rintro e w1 ⟨rfl, rfl⟩
    go_wp2
    go_ret
    exact ⟨by rw [hr.out]; rfl, hb0⟩
  rw [hte] at hr
  cases p
  · replace hr : Hid (M3.elemE (.mk k n ats t ks) = 4) := hr
    go_enter Tryz.func51, Tryz.ntmps51
    go_wp2_with fail
    refine (hNa.out _).mono ?_
    rintro e w1 ⟨rfl, rfl⟩
    go_wp2
    go_ret
    exact ⟨by rw [hr.out]; rfl, hb0⟩
  replace hr : Hid (M3.elemE (.mk k n ats t ks) = if M3.namesE [] ats = 0 then M3.valuesE ats else M3.namesE [] ats) := hr
  have hz0 : w.heap.size < (w.alloc (.cells #[.int .i64 k, .string n, .slice a ats.length cap, .string t, .slice a2 ks.length cap2] 41)).heap.size := by simp
  have hn0 : Hid (M3.namesE [] ats = M3.namesE (seenA ats 0) (ats.drop 0)) := rfl
  replace hf3 := Lib.hid hf3
  go_enter Tryz.func51, Tryz.ntmps51
  go_wp2_with fail
  refine (hNa.out _).mono ?_
  rintro e w1 ⟨rfl, rfl⟩
  go_wp2_with fail
  go_loopw [4, 5, 6] (fun u4 _ _ wr => ∃ i : Nat, i ≤ ats.length ∧ u4 = .int .i64 (i : Int) ∧ Hid (M3.namesE [] ats = M3.namesE (seenA ats i) (ats.drop i)) ∧ Below w.heap.size w wr ∧ Box wr w.heap.size 41 [.int .i64 k, .string n, .slice a ats.length cap, .string t, .slice a2 ks.length cap2]) (fun u4 _ _ _ => ats.length - (intOf u4).toNat)
  case atStart => exact ⟨0, by omega, rfl, hn0, hb0, hbx0⟩
  case round =>
    obtain ⟨i, hi, rfl, hv, hb, hbx⟩ := hrel
    clear hn0 hbx0 hb0 hz0 hNa
    have hz := hbx.lt
    have q2 := hbx.cell (i := 2) rfl
    by_cases hlt : i < ats.length
    · obtain ⟨b, off, rfl, hSb, c0, c1⟩ := (hat.below hS hb).atA i hlt
      have hbl := hS b hSb
      have hna := names_at' ats i hlt
      have hfa := (hf3.out _ (List.getElem_mem hlt)).1
      have hget := Lib.hid (fun k (hk : k < i) => seenA_get ats i k hk hi)
      have hA := Lib.hid (fun W => ref03Attributed ats[i].name W hfa)
      have hsl := seenA_len ats i hi
      generalize hnm : ats[i].name = nm at *
      generalize M3.attributedB nm.data.toList = p at *
      replace hna := hv.out.trans hna
      have hI0 : (0 : Int) ≤ (i : Int) := by omega
      have hI1 : (i : Int) < (ats.length : Int) := by omega
      obtain ⟨wo, rfl⟩ : ∃ wo : World, wo = wr := ⟨_, rfl⟩
      replace hsl := Lib.hid hsl
      replace hnm := Lib.hid hnm
      cases p
      · replace hna : Hid (M3.namesE [] ats = 4) := hna
        rw [hna.out] at hr
        replace hr : Hid (M3.elemE (.mk k n ats t ks) = 4) := hr
        go_wp2_with fail
        refine (hA.out _).mono ?_
        rintro e w2 ⟨rfl, hb2⟩
        go_wp2
        go_ret
        exact ⟨by rw [hr.out]; rfl, hb.trans (hb2.mono (by omega))⟩
      · replace hna : Hid (M3.namesE [] ats = if (seenA ats i).any (M3.eqB nm) then 5 else M3.namesE (seenA ats (i + 1)) (ats.drop (i + 1))) := hna
        clear hv
        go_wp2_with fail
        refine (hA.out _).mono ?_
        rintro e w2 ⟨rfl, hb2⟩
        have hbx2 := hbx.below hb2 hz
        have c0' := (hb2.cell (p := ⟨b, off + i * 2, none⟩) (by simp; omega)).trans c0
        have hb02 : Below w.heap.size w w2 := hb.trans (hb2.mono (by omega))
        clear hA hbx q2 c0 c1
        go_wp2_with fail
        go_loopw [6] (fun u6 wr => ∃ j : Nat, j ≤ i ∧ u6 = .int .i64 (j : Int) ∧ Hid (∀ k' (s : ByteArray), k' < j → (seenA ats i)[k']? = some s → M3.eqB nm s = false) ∧ Below w2.heap.size w2 wr) (fun u6 _ => i - (intOf u6).toNat)
        case atStart => exact ⟨0, by omega, rfl, Lib.hid (fun k' s h => absurd h (by omega)), Below.refl _ _⟩
        case round =>
          obtain ⟨j, hj, rfl, hno, hbj⟩ := hrel
          have hbx3 := hbx2.below hbj hbx2.lt
          have q3 := hbx3.cell (i := 2) rfl
          have hb03 : Below w.heap.size w wr := hb02.trans (hbj.mono (by have := hb02.size; omega))
          have hz2 := hb02.size
          by_cases hji : j < i
          · obtain ⟨b', off', e0, hSb', d0, d1⟩ := (hat.below hS hb03).atA j (by omega)
            cases e0
            have c0'' := (hbj.cell (p := ⟨b, off + i * 2, none⟩) (by simp; omega)).trans c0'
            have hgj := hget.out j hji
            have hJ0 : (0 : Int) ≤ (j : Int) := by omega
            have hJ1 : (j : Int) < (ats.length : Int) := by omega
            generalize ats[j].name = nj at *
            replace hgj := Lib.hid hgj
            have heq := eqB_comm nm nj
            have hbd : Below w.heap.size w wr.drew := hb03.drew
            cases hc : (nj.toList == nm.toList)
            · rw [hc] at heq
              replace heq := Lib.hid heq
              go_wp2_with fail
              go_region_held3 (fun w' => w'.cell? ⟨w.heap.size, 2, none⟩ = some (.slice (some ⟨b, off, none⟩) ats.length cap) ∧ w'.cell? ⟨b, off + i * 2, none⟩ = some (.string nm) ∧ w'.cell? ⟨b, off + j * 2, none⟩ = some (.string nj))
                (first
                  | go_keep
                  | assumption)
                (first
                  | fail)
              go_wp2_with fail
              go_roundw
              case rel =>
                refine ⟨j + 1, by omega, by go_num, Lib.hid (fun k' s h1 h2 => ?_), hbj.drew⟩
                by_cases e : k' = j
                · subst e
                  rw [hgj.out] at h2
                  cases h2
                  exact heq.out
                · exact hno.out k' s (by omega) h2
              case measure => exact meas_nat hji
            · rw [hc] at heq
              have hany := any_at (p := M3.eqB nm) hgj.out heq
              rw [hany] at hna
              replace hna : Hid (M3.namesE [] ats = 5) := hna
              rw [hna.out] at hr
              replace hr : Hid (M3.elemE (.mk k n ats t ks) = 5) := hr
              replace heq := Lib.hid heq
              clear hany
              go_wp2_with fail
              go_region_held3 (fun w' => w'.cell? ⟨w.heap.size, 2, none⟩ = some (.slice (some ⟨b, off, none⟩) ats.length cap) ∧ w'.cell? ⟨b, off + i * 2, none⟩ = some (.string nm) ∧ w'.cell? ⟨b, off + j * 2, none⟩ = some (.string nj))
                (first
                  | go_keep
                  | assumption)
                (first
                  | fail)
              go_wp2_with fail
              go_ret
              exact ⟨by rw [hr.out]; rfl, hbd⟩
          · obtain rfl : j = i := by omega
            have hany : (seenA ats j).any (M3.eqB nm) = false := by
              rw [List.any_eq_false]
              intro s hs
              obtain ⟨k', hk', e⟩ := List.mem_iff_getElem.1 hs
              rw [hsl.out] at hk'
              have := hno.out k' s hk' (by rw [List.getElem?_eq_getElem (by rw [hsl.out]; exact hk'), e])
              simpa using this
            rw [hany] at hna
            replace hna : Hid (M3.namesE [] ats = M3.namesE (seenA ats (j + 1)) (ats.drop (j + 1))) := hna
            clear hany hno
            go_wp2_with fail
            go_roundw
            case rel => exact ⟨j + 1, by omega, by go_num, hna, hb03, hbx3⟩
            case measure => exact meas_nat hlt
    · obtain rfl : i = ats.length := by omega
      have hv0 : M3.namesE [] ats = 0 := by rw [hv.out, List.drop_length]; rfl
      rw [hv0, if_pos rfl] at hr
      have hvv : Hid (M3.valuesE ats = M3.valuesE (ats.drop 0)) := rfl
      clear hv hv0
      obtain ⟨wo, rfl⟩ : ∃ wo : World, wo = wr := ⟨_, rfl⟩
      go_wp2_with fail
      go_loopw [7, 8] (fun u7 _ wr => ∃ i : Nat, i ≤ ats.length ∧ u7 = .int .i64 (i : Int) ∧ Hid (M3.valuesE ats = M3.valuesE (ats.drop i)) ∧ Below w.heap.size w wr ∧ Box wr w.heap.size 41 [.int .i64 k, .string n, .slice a ats.length cap, .string t, .slice a2 ks.length cap2]) (fun u7 _ _ => ats.length - (intOf u7).toNat)
      case atStart => exact ⟨0, by omega, rfl, hvv, hb, hbx⟩
      case round =>
        obtain ⟨i, hi, rfl, hv, hb, hbx⟩ := hrel
        clear hvv
        have hz := hbx.lt
        have q2 := hbx.cell (i := 2) rfl
        by_cases hlt : i < ats.length
        · obtain ⟨b, off, rfl, hSb, c0, c1⟩ := (hat.below hS hb).atA i hlt
          have hva := hv.out.trans (values_at ats i hlt)
          have hfa := (hf3.out _ (List.getElem_mem hlt)).2
          have hA := Lib.hid (fun W => ref01Is ats[i].value W hfa)
          generalize ats[i].value = vl at *
          generalize M1.isB vl.data.toList = p at *
          have hI0 : (0 : Int) ≤ (i : Int) := by omega
          have hI1 : (i : Int) < (ats.length : Int) := by omega
          clear hv
          cases p
          · replace hva : Hid (M3.valuesE ats = 2) := hva
            go_wp2_with fail
            refine (hA.out _).mono ?_
            rintro e w2 ⟨rfl, hb2⟩
            go_wp2
            go_ret
            exact ⟨by rw [hr.out, hva.out]; rfl, hb.trans (hb2.mono (by omega))⟩
          · replace hva : Hid (M3.valuesE ats = M3.valuesE (ats.drop (i + 1))) := hva
            go_wp2_with fail
            refine (hA.out _).mono ?_
            rintro e w2 ⟨rfl, hb2⟩
            have hbx2 := hbx.below hb2 hz
            clear hA
            go_wp2_with fail
            go_roundw
            case rel => exact ⟨i + 1, by omega, by go_num, hva, hb.trans (hb2.mono (by omega)), hbx2⟩
            case measure => exact meas_nat hlt
        · obtain rfl : i = ats.length := by omega
          have hv0 : Hid (M3.valuesE ats = 0) := by show _ = _; rw [hv.out, List.drop_length]; rfl
          clear hv
          go_wp2_with fail
          go_ret
          exact ⟨by rw [hr.out, hv0.out]; rfl, hb⟩

end Go.Proofs.YteefodibpjgicaaGreat

/- The reference of layer 3: which nodes may be, walked on. -/
namespace Go.Proofs.YteefodibpjgicaaGreat
open Go.RowKit
set_option maxHeartbeats 8000000 in
set_option maxRecDepth 100000 in
theorem ref03One (S : Nat → Prop) (x : Nd) (va vk : Value) (p : Bool) (w : World) (hS : ∀ b, S b → b < w.heap.size) (hx : RepV S w x va vk) (hf : Fit1 x) :
    Calls Tryz.prog 35 #[x.val va vk, .bool p] w (IntPost (M3.oneE x p) w) := by
  have hE := Lib.hid (fun W h1 h2 => ref03Element S x va vk W h1 h2 hf)
  obtain ⟨hat, hkd⟩ := hx
  have hx0 : RepV S w x va vk := ⟨hat, hkd⟩
  obtain ⟨a, cap, rfl⟩ := hat.slice
  obtain ⟨a2, cap2, rfl⟩ := hkd.slice
  cases x with | mk k n ats t ks =>
  obtain ⟨hf1, hf2, hf3, _⟩ := hf
  simp only [Nd.val, Nd.kind, Nd.name, Nd.text, Nd.attrs, Nd.kids] at *
  have hb0 := (Below.refl w.heap.size w).alloc (Nat.le_refl _) (.cells #[.int .i64 k, .string n, .slice a ats.length cap, .string t, .slice a2 ks.length cap2] 41)
  have hbx0 := Box.new w 41 [.int .i64 k, .string n, .slice a ats.length cap, .string t, .slice a2 ks.length cap2]
  have hxb := Lib.hid (hx0.below hS hb0)
  have hSb := Lib.hid (show ∀ b, S b → b < (w.alloc (.cells #[.int .i64 k, .string n, .slice a ats.length cap, .string t, .slice a2 ks.length cap2] 41)).heap.size from fun b h => by have := hS b h; simp; omega)
  have hI := Lib.hid (fun W => ref01Is t W hf2)
  have hr : Hid (M3.oneE (.mk k n ats t ks) p = if k = 1 then M3.elemE (.mk k n ats t ks) else if k = 2 then (if (n.toList.isEmpty && ats.isEmpty && ks.isEmpty) then (if M1.isB t.data.toList && !(t.toList.isEmpty || p) then 0 else 2) else 7) else if k = 3 then (if (n.toList.isEmpty && ats.isEmpty && ks.isEmpty) then (if M1.isB t.data.toList then 0 else 2) else 7) else 7) := rfl
  clear hat hkd hx0 hS hf3
  by_cases h1 : k = 1
  · subst h1
    rw [if_pos rfl] at hr
    clear hI
    go_enter Tryz.func35, Tryz.ntmps35
    go_wp2_with fail
    refine (hE.out _ hSb.out hxb.out).mono ?_
    rintro e w1 ⟨rfl, hb1⟩
    go_wp2
    go_ret
    exact ⟨by rw [hr.out]; rfl, hb0.trans (hb1.mono (by simp))⟩
  rw [if_neg h1] at hr
  have h1b : (k == 1) = false := by simpa using h1
  clear hE hxb hSb
  by_cases h23 : k = 2 ∨ k = 3
  · generalize M1.isB t.data.toList = q at *
    have seven : (n.toList.isEmpty && ats.isEmpty && ks.isEmpty) = false → Hid (M3.oneE (.mk k n ats t ks) p = 7) := by
      intro h
      show _ = _
      rw [hr.out, h]
      rcases h23 with rfl | rfl <;> simp
    have h2b : (k != 2) = !(k == 2) := rfl
    have h3b : (k != 3) = !(k == 3) := rfl
    cases hne : n.toList.isEmpty
    · have hr2 := seven (by rw [hne]; rfl)
      clear hr seven h2b h3b
      rcases h23 with rfl | rfl
      all_goals
        go_enter Tryz.func35, Tryz.ntmps35
        go_wp2
        go_ret
        exact ⟨by rw [hr2.out]; rfl, hb0⟩
    · cases ats with
      | cons a0 r0 =>
        have hr2 := seven (by simp)
        have hl1 : (0 : Int) < ((a0 :: r0).length : Int) := by simp
        generalize (a0 :: r0).length = m at *
        clear hr seven h2b h3b hb0 hbx0
        rcases h23 with rfl | rfl
        all_goals
          go_enter Tryz.func35, Tryz.ntmps35
          go_wp2
          go_ret
          exact ⟨by rw [hr2.out]; rfl, (Below.refl _ _).alloc (Nat.le_refl _) _⟩
      | nil =>
        simp only [List.length_nil] at hb0 hbx0
        cases ks with
        | cons a0 r0 =>
          have hr2 := seven (by simp)
          have hl1 : (0 : Int) < ((a0 :: r0).length : Int) := by simp
          generalize (a0 :: r0).length = m at *
          clear hr seven h2b h3b hb0 hbx0
          simp only [List.length_nil]
          rcases h23 with rfl | rfl
          all_goals
            go_enter Tryz.func35, Tryz.ntmps35
            go_wp2
            go_ret
            exact ⟨by rw [hr2.out]; rfl, (Below.refl _ _).alloc (Nat.le_refl _) _⟩
        | nil =>
          simp only [List.length_nil] at hb0 hbx0
          simp only [List.length_nil]
          clear seven h2b h3b
          rw [hne] at hr
          rcases h23 with rfl | rfl
          · replace hr : M3.oneE (.mk 2 n [] t []) p = if (q && !(t.toList.isEmpty || p)) then 0 else 2 := hr.out
            cases hte : t.toList.isEmpty <;> cases q <;> cases p
            all_goals
              rw [hte] at hr
              replace hr := Lib.hid hr
              go_enter Tryz.func35, Tryz.ntmps35
              go_wp2_with fail
              refine (hI.out _).mono ?_
              rintro e w1 ⟨rfl, hb1⟩
              have hbx1 := hbx0.below hb1 (by simp)
              have c0 := hbx1.cell (i := 0) rfl
              have c3 := hbx1.cell (i := 3) rfl
              go_wp2
              go_ret
              exact ⟨by rw [hr.out]; rfl, hb0.trans (hb1.mono (by simp))⟩
          · replace hr : M3.oneE (.mk 3 n [] t []) p = if q then 0 else 2 := hr.out
            cases q
            all_goals
              replace hr := Lib.hid hr
              go_enter Tryz.func35, Tryz.ntmps35
              go_wp2_with fail
              refine (hI.out _).mono ?_
              rintro e w1 ⟨rfl, hb1⟩
              have hbx1 := hbx0.below hb1 (by simp)
              have c0 := hbx1.cell (i := 0) rfl
              have c3 := hbx1.cell (i := 3) rfl
              go_wp2
              go_ret
              exact ⟨by rw [hr.out]; rfl, hb0.trans (hb1.mono (by simp))⟩
  · rw [if_neg (by omega), if_neg (by omega)] at hr
    have h2b : (k != 2) = true := by simp [bne]; omega
    have h3b : (k != 3) = true := by simp [bne]; omega
    clear h1 h23
    go_enter Tryz.func35, Tryz.ntmps35
    go_wp2
    go_ret
    exact ⟨by rw [hr.out]; rfl, hb0⟩

end Go.Proofs.YteefodibpjgicaaGreat

/- Layer 3: texts side by side are merged, and then may be. -/
namespace Go.Proofs.YteefodibpjgicaaGreat
open Go.RowKit Go.ChangeShapes Go.WideShapes
section
variable {H : Type} {enc : TypeId × Value → H} {w : World} {base : Nat} {spare : Nat → Bool} {held : Bool}
end
theorem Row.atS {S : Nat → Prop} {w : World} {a : Option Addr} {n cap : Nat} {l : List ByteArray} (h : Row S w 1 (.slice a n cap) l.length (l.flatMap fun s => [.string s])) (i : Nat) (hi : i < l.length) :
    ∃ b off, a = some ⟨b, off, none⟩ ∧ S b ∧ w.cell? ⟨b, off + i, none⟩ = some (.string l[i]) := by
  obtain ⟨h0, a', cap', h1, h2, h3, h4, h5⟩ := h
  cases h1
  obtain ⟨b, off, rfl, h7, h8⟩ := h5 (by omega)
  refine ⟨b, off, rfl, h7, h8 i _ ?_⟩
  have : l.flatMap (fun s => [Value.string s]) = l.map Value.string := (List.map_eq_flatMap).symm
  rw [this, List.getElem?_map, List.getElem?_eq_getElem hi]; rfl

theorem fitN_iff {l : List Nd} : FitN l ↔ ∀ x ∈ l, Fit1 x ∧ FitN x.kids := by
  induction l with
  | nil => simp [fitN_nil]
  | cons x r ih => rw [fitN_cons, ih]; simp; exact ⟨fun h => ⟨⟨h.1, h.2.1⟩, h.2.2⟩, fun h => ⟨h.1.1, h.1.2, h.2⟩⟩
end Go.Proofs.YteefodibpjgicaaGreat

/- The reference of layer 3: May. -/
namespace Go.Proofs.YteefodibpjgicaaGreat
open Go.RowKit
def behind (l : List Nd) : Nat → Bool
  | 0 => false
  | i + 1 => match l[i]? with | some x => x.kind == 2 | none => false

theorem behind_succ (l : List Nd) (i : Nat) (h : i < l.length) : behind l (i + 1) = (l[i].kind == 2) := by
  show (match l[i]? with | some x => x.kind == 2 | none => false) = _
  rw [List.getElem?_eq_getElem h]

theorem may_drop (l : List Nd) (i : Nat) (h : i < l.length) : M3.mayE (behind l i) (l.drop i) = if M3.oneE l[i] (behind l i) ≠ 0 then M3.oneE l[i] (behind l i) else if M3.mayE false l[i].kids ≠ 0 then M3.mayE false l[i].kids else M3.mayE (behind l (i + 1)) (l.drop (i + 1)) := by
  rw [List.drop_eq_getElem_cons h, M3.mayE_cons, behind_succ l i h]

theorem wpStill_skip {P : Program} {ops : Array Oper} {w : World} {Q : Act → Prop} {a : Act} {o : Oper} {rest : List Oper} (hw : Region.wanted o (yielded ops a.tmps) = false)
    (h : ∀ K : Act → Prop, (∀ a, wpStill P ops w Q rest a → K a) → K (a.put o.dst undef)) : wpStill P ops w Q (o :: rest) a := by
  unfold wpStill
  rw [if_neg (by simp [hw])]
  exact h _ (fun _ h => h)

set_option maxHeartbeats 8000000 in
set_option maxRecDepth 100000 in
theorem ref03May (wt : Nat) : ∀ (S : Nat → Prop) (v : Value) (l : List Nd) (w : World), M3.weight l < wt → FitN l → (∀ b, S b → b < w.heap.size) → RepN S w v l →
    Calls Tryz.prog 19 #[v] w (IntPost (M3.mayE false l) w) := by
  induction wt with
  | zero => intro S v l w h; omega
  | succ wt ih =>
  intro S v l w hwt hfit hS hr
  obtain ⟨a, cap, rfl⟩ := hr.slice
  obtain ⟨_, hlc, hcm⟩ := hr.len
  replace ih := Lib.hid ih
  have h0 : Hid (M3.mayE false l = M3.mayE (behind l 0) (l.drop 0)) := rfl
  replace hfit := Lib.hid hfit
  go_enter Tryz.func19, Tryz.ntmps19
  go_wp2_with fail
  go_loopw [3, 4] (fun u3 _ wr => ∃ i : Nat, i ≤ l.length ∧ u3 = .int .i64 (i : Int) ∧ Hid (M3.mayE false l = M3.mayE (behind l i) (l.drop i)) ∧ Below w.heap.size w wr) (fun u3 _ _ => l.length - (intOf u3).toNat)
  case atStart => exact ⟨0, by omega, rfl, h0, Below.refl _ _⟩
  case round =>
    obtain ⟨i, hi, rfl, hv, hb⟩ := hrel
    have hz := hb.size
    by_cases hlt : i < l.length
    · have hr1 := hr.below hS hb
      obtain ⟨b, off, va, vk, rfl, hSb, c0, c1, c2, c3, c4, hrv⟩ := hr1.at_ i hlt
      have hbl := hS b hSb
      have hmd := hv.out.trans (may_drop l i hlt)
      obtain ⟨hf1, hf2⟩ := fitN_iff.1 hfit.out _ (List.getElem_mem hlt)
      have hwk := weight_mem (List.getElem_mem hlt)
      have hprev : ∀ _ : 0 < i, wr.cell? ⟨b, off + (i - 1) * 5, none⟩ = some (.int .i64 l[i - 1].kind) ∧ behind l i = (l[i - 1].kind == 2) := by
        intro h
        obtain ⟨b', off', va', vk', e, _, d0, _⟩ := hr1.at_ (i - 1) (by omega)
        cases e
        refine ⟨d0, ?_⟩
        have := behind_succ l (i - 1) (by omega)
        rwa [show i - 1 + 1 = i by omega] at this
      generalize l[i] = x at *
      have hrv0 := hrv
      obtain ⟨a1, e1, rfl⟩ := hrv.at_.slice
      obtain ⟨a2, e2, rfl⟩ := hrv.kids.slice
      have hOne := Lib.hid (fun p => ref03One S x _ _ p wr.drew (fun b h => by have := hS b h; simp; omega) (hrv0.keep (fun _ _ => rfl)) hf1)
      have hih := Lib.hid (fun W (hW : Below wr.heap.size wr W) => ih.out S (.slice a2 x.kids.length e2) x.kids W (by omega) hf2 (fun b h => by have := hS b h; have := hW.size; omega) (RepN.below (w := wr) (B := wr.heap.size) hrv.kids (fun b h => by have := hS b h; omega) hW))
      generalize hrest : M3.mayE (behind l (i + 1)) (l.drop (i + 1)) = rest at *
      replace hrest := Lib.hid hrest
      have hI0 : (0 : Int) ≤ (i : Int) := by omega
      have hI1 : (i : Int) < (l.length : Int) := by omega
      clear hv hr1 hrv0
      replace hmd := Lib.hid hmd
      by_cases hi0 : 0 < i
      · obtain ⟨d0, hbe⟩ := hprev hi0
        have hmd := hmd.out
        rw [hbe] at hmd
        have hi1 : (0 : Int) < (i : Int) := by omega
        have hj1 : (i : Int) - 1 = ((i - 1 : Nat) : Int) := by omega
        have hj2 : ((i - 1 : Nat) : Int) < (l.length : Int) := by omega
        have hj3 : (0 : Int) ≤ ((i - 1 : Nat) : Int) := by omega
        have hj5 : IntKind.i64.wrap ((i - 1 : Nat) : Int) = ((i - 1 : Nat) : Int) := IntWalk.i64_in _ ⟨by omega, by omega⟩
        have hj4 : i - 1 < l.length := by omega
        clear hprev
        generalize l[i - 1].kind = pk at *
        obtain ⟨j, hj⟩ : ∃ j, i - 1 = j := ⟨_, rfl⟩
        rw [hj] at d0 hj1 hj2 hj3 hj4 hj5
        clear hj
        generalize hpq : (pk == 2) = pq at *
        go_wp2_with fail
        go_still_tail 15, (by kernel_rfl)
        change wpList _ _ _ _ _ wr.drew
        go_wp2_with fail
        refine (hOne.out pq).mono ?_
        rintro e w2 ⟨rfl, hb2⟩
        have hbw2 : Below wr.heap.size wr w2 := ((Below.refl _ wr).drew).trans hb2
        have hz2 := hbw2.size
        have c4' := (hbw2.cell (p := ⟨b, off + i * 5 + 4, none⟩) (by simp; omega)).trans c4
        clear hOne c0 c1 c2 c3 c4
        generalize M3.oneE x pq = z at *
        by_cases hz1 : z = 0
        · have hz1b : (z == 0) = true := by simpa using hz1
          rw [hz1, if_neg (by simp)] at hmd
          replace hz1 := Lib.hid hz1
          have hk2 := Lib.hid (hih.out w2 hbw2)
          clear hih
          go_wp2_with fail
          refine hk2.out.mono ?_
          rintro e w3 ⟨rfl, hb3⟩
          have hbw3 : Below w.heap.size w w3 := (hb.trans (hbw2.mono hz)).trans (hb3.mono (by omega))
          clear hk2 c4'
          generalize M3.mayE false x.kids = y at *
          by_cases hy : y = 0
          · rw [hy, if_neg (by simp)] at hmd
            have hy1 : (y == 0) = true := by simpa using hy
            replace hy := Lib.hid hy
            go_wp2_with fail
            go_roundw
            case rel => exact ⟨i + 1, by omega, by go_num, by show _ = _; rw [hmd, hrest.out], hbw3⟩
            case measure => exact meas_nat hlt
          · rw [if_pos hy] at hmd
            have hy1 : (y == 0) = false := by simpa using hy
            replace hmd := Lib.hid hmd
            go_wp2_with fail
            go_ret
            exact ⟨by rw [hmd.out]; rfl, hbw3⟩
        · rw [if_pos hz1] at hmd
          have hz1b : (z == 0) = false := by simpa using hz1
          replace hmd := Lib.hid hmd
          clear hih
          go_wp2_with fail
          go_ret
          exact ⟨by rw [hmd.out]; rfl, hb.trans (hbw2.mono hz)⟩
      · clear hprev
        have hmd := hmd.out
        have hbe : behind l i = false := by
          have : i = 0 := by omega
          subst this; rfl
        rw [hbe] at hmd
        obtain ⟨q, hd3⟩ : ∃ q, decide (0 < i) = q := ⟨_, rfl⟩
        have hq2 : Hid (q = false) := by show _ = _; rw [← hd3]; exact decide_eq_false hi0
        replace hi0 := Lib.hid hi0
        go_wp2_with fail
        refine wp_region_still_tail 15 (by kernel_rfl) (by kernel_rfl) ?_
        simp only [List.take_succ_cons, List.take_zero, List.drop_succ_cons, List.drop_zero]
        iterate 7 still_step
        iterate 7
          refine wpStill_skip (by simp [Region.wanted, yielded, hq2.out]) (fun K hK => ?_)
          go_simp
          refine hK _ ?_
          clear hK K
        obtain rfl : q = false := hq2.out
        still_step
        refine wpStill_nil ?_
        change wpList _ _ _ _ _ wr.drew
        go_wp2_with fail
        refine (hOne.out false).mono ?_
        rintro e w2 ⟨rfl, hb2⟩
        have hbw2 : Below wr.heap.size wr w2 := ((Below.refl _ wr).drew).trans hb2
        have hz2 := hbw2.size
        have c4' := (hbw2.cell (p := ⟨b, off + i * 5 + 4, none⟩) (by simp; omega)).trans c4
        clear hOne c0 c1 c2 c3 c4
        generalize M3.oneE x false = z at *
        by_cases hz1 : z = 0
        · have hz1b : (z == 0) = true := by simpa using hz1
          rw [hz1, if_neg (by simp)] at hmd
          replace hz1 := Lib.hid hz1
          have hk2 := Lib.hid (hih.out w2 hbw2)
          clear hih
          go_wp2_with fail
          refine hk2.out.mono ?_
          rintro e w3 ⟨rfl, hb3⟩
          have hbw3 : Below w.heap.size w w3 := (hb.trans (hbw2.mono hz)).trans (hb3.mono (by omega))
          clear hk2 c4'
          generalize M3.mayE false x.kids = y at *
          by_cases hy : y = 0
          · rw [hy, if_neg (by simp)] at hmd
            have hy1 : (y == 0) = true := by simpa using hy
            replace hy := Lib.hid hy
            go_wp2_with fail
            go_roundw
            case rel => exact ⟨i + 1, by omega, by go_num, by show _ = _; rw [hmd, hrest.out], hbw3⟩
            case measure => exact meas_nat hlt
          · rw [if_pos hy] at hmd
            have hy1 : (y == 0) = false := by simpa using hy
            replace hmd := Lib.hid hmd
            go_wp2_with fail
            go_ret
            exact ⟨by rw [hmd.out]; rfl, hbw3⟩
        · rw [if_pos hz1] at hmd
          have hz1b : (z == 0) = false := by simpa using hz1
          replace hmd := Lib.hid hmd
          clear hih
          go_wp2_with fail
          go_ret
          exact ⟨by rw [hmd.out]; rfl, hb.trans (hbw2.mono hz)⟩
    · obtain rfl : i = l.length := by omega
      rw [List.drop_length, M3.mayE_nil] at hv
      go_wp2_with fail
      go_ret
      exact ⟨by rw [hv.out]; rfl, hb⟩

end Go.Proofs.YteefodibpjgicaaGreat

/- Layer 3 by plain definitions: nodes that may be, made of any. No program in it. -/
namespace Go.Proofs.YteefodibpjgicaaGreat
namespace M3
theorem nilB_empty : nilB ⟨#[]⟩ = true := nilB_iff.2 rfl
end M3
end Go.Proofs.YteefodibpjgicaaGreat

/- The reference of layer 3: an element's name, an attribute's name, of any text. -/
namespace Go.Proofs.YteefodibpjgicaaGreat
open Go.RowKit
end Go.Proofs.YteefodibpjgicaaGreat

/- Layer 3: values of attributes. -/
namespace Go.Proofs.YteefodibpjgicaaGreat
open Go.RowKit
end Go.Proofs.YteefodibpjgicaaGreat

/- A region that draws its order, by a state of my own: what holds whichever operations stand behind. -/
namespace Go.Proofs.YteefodibpjgicaaGreat
def updF (f : Nat → Bool) (i : Nat) : Nat → Bool := fun j => if j = i then true else f j
@[simp] theorem updF_same (f : Nat → Bool) (i : Nat) : updF f i i = true := by simp [updF]
theorem updF_ne (f : Nat → Bool) {i j : Nat} (h : j ≠ i) : updF f i j = f j := by simp [updF, h]
/-- Each operation waits for earlier ones alone. -/
def ordB (md : Region.Mode) (ops : Array Oper) : Bool :=
  (List.range ops.size).all fun i => match ops[i]? with | some o => o.after.all fun e => !Region.binds md e || decide (e.on < i) | none => true
theorem ordB_spec {md : Region.Mode} {ops : Array Oper} (h : ordB md ops = true) {i : Nat} {o : Oper} (hi : ops[i]? = some o) {e : Edge} (he : e ∈ o.after) (hb : Region.binds md e = true) : e.on < i := by
  have hlt := (Array.getElem?_eq_some_iff.1 hi).1
  unfold ordB at h
  rw [List.all_eq_true] at h
  have := h i (List.mem_range.2 hlt)
  rw [hi] at this
  simp only [Array.all_eq_true_iff_forall_mem, Bool.or_eq_true, Bool.not_eq_true', decide_eq_true_eq] at this
  rcases this e he with h | h
  · rw [hb] at h; cases h
  · exact h
def flags (listed : Array Bool) : Nat → Bool := fun i => listed.getD i true
theorem flags_set (listed : Array Bool) (i : Nat) : flags (listed.setIfInBounds i true) = updF (flags listed) i := by
  funext j
  unfold flags updF
  by_cases h : j = i
  · subst h
    rcases Nat.lt_or_ge j listed.size with h | h
    · simp [h]
    · simp
  · rw [if_neg h, getD_set_ne true (Ne.symm h)]
theorem flags_false {listed : Array Bool} {i : Nat} (h : listed.getD i false = true) : flags listed i = true := by
  unfold flags
  rcases Nat.lt_or_ge i listed.size with h' | h'
  · simp [h'] at h ⊢; exact h
  · simp [Array.getElem?_eq_none h'] at h
theorem false_flags {listed : Array Bool} {i : Nat} (hi : i < listed.size) (h : flags listed i = true) : listed.getD i false = true := by
  unfold flags at h
  simp [hi] at h ⊢; exact h

theorem all_of_ready_nil {md : Region.Mode} {ops : Array Oper} (hord : ordB md ops = true) {listed : Array Bool} (hs : listed.size = ops.size) (hr : Region.ready md ops listed = []) :
    ∀ i, i < ops.size → flags listed i = true := by
  intro i
  induction i using Nat.strongRecOn with
  | ind i ih =>
    intro hi
    cases hf : flags listed i with
    | true => rfl
    | false =>
      have : i ∈ Region.ready md ops listed := mem_ready.2 ⟨hf, ops[i], Array.getElem?_eq_getElem hi, fun e he hb => by
        have hlt := ordB_spec hord (Array.getElem?_eq_getElem hi) he hb
        exact false_flags (by rw [hs]; exact Nat.lt_trans hlt hi) (ih e.on hlt (Nat.lt_trans hlt hi))⟩
      rw [hr] at this; cases this

def leftOf (listed : Array Bool) : Nat := listed.toList.countP (fun b => !b)
theorem leftOf_set {listed : Array Bool} {i : Nat} (h : flags listed i = false) : leftOf (listed.setIfInBounds i true) + 1 = leftOf listed := by
  have hi : i < listed.size := by
    rcases Nat.lt_or_ge i listed.size with h' | h'
    · exact h'
    · simp [flags, Array.getElem?_eq_none h'] at h
  have hv : listed.toList[i]'(by simpa using hi) = false := by simpa [flags, hi] using h
  unfold leftOf
  rw [Array.toList_setIfInBounds]
  have h2 : i < listed.toList.length := by simpa using hi
  rw [List.countP_set h2, hv]
  have hp : 0 < listed.toList.countP (fun b => !b) := List.countP_pos_iff.2 ⟨false, by rw [← hv]; exact List.getElem_mem h2, rfl⟩
  simp only [Bool.not_true, Bool.not_false, if_true, Bool.false_eq_true, if_false]
  omega

theorem wpAnyIn_inv {F : Fence} {n : Nat} {P : Program} {md : Region.Mode} {ops : Array Oper} {Q : Exit → Act → World → Prop} (Inv : (Nat → Bool) → Act → World → Prop) (hord : ordB md ops = true)
    (hstep : ∀ i, i < ops.size → ∀ (f : Nat → Bool) (a : Act) (w : World), f i = false → (∀ j, Region.waitsFor md ops i j = true → f j = true) → Inv f a w → wpOpIn F n P ops Q i (Inv (updF f i)) a w)
    (hdone : ∀ (f : Nat → Bool) (a : Act) (w : World), (∀ i, i < ops.size → f i = true) → Inv f a w → Q .normal a w) :
    ∀ (fuel : Nat) (listed : Array Bool) (a : Act) (w : World), listed.size = ops.size → leftOf listed ≤ fuel → Inv (flags listed) a w → wpAnyIn F n P md ops Q fuel listed a w := by
  intro fuel
  induction fuel with
  | zero =>
    intro listed a w hs hl h
    have hr : Region.ready md ops listed = [] := by
      rw [List.eq_nil_iff_forall_not_mem]
      intro i hi
      have := leftOf_set (mem_ready.1 hi).1
      omega
    exact ⟨hr, hdone _ _ _ (all_of_ready_nil hord hs hr) h⟩
  | succ fuel ih =>
    intro listed a w hs hl h
    refine ⟨fun hr => hdone _ _ _ (all_of_ready_nil hord hs hr) h, fun i hi => ?_⟩
    obtain ⟨h0, o, ho, hall⟩ := mem_ready.1 hi
    have hlt := (Array.getElem?_eq_some_iff.1 ho).1
    refine wpOpIn_mono (fun a' w' h' => ih (listed.setIfInBounds i true) a' w' (by simpa using hs) (by have := leftOf_set h0; omega) ?_) (hstep i hlt (flags listed) a w h0 (fun j hj => ?_) h)
    · rw [flags_set]; exact h'
    · obtain ⟨oj, hoj, e, he, hb, rfl⟩ := Region.waitsFor_spec hj
      rw [ho] at hoj; cases hoj
      exact flags_false (hall e he hb)
theorem wpAny_inv {P : Program} {md : Region.Mode} {ops : Array Oper} {Q : Exit → Act → World → Prop} (Inv : (Nat → Bool) → Act → World → Prop) (hord : ordB md ops = true)
    (hstep : ∀ i, i < ops.size → ∀ (f : Nat → Bool) (a : Act) (w : World), f i = false → (∀ j, Region.waitsFor md ops i j = true → f j = true) → Inv f a w → wpOp P ops Q i (Inv (updF f i)) a w)
    (hdone : ∀ (f : Nat → Bool) (a : Act) (w : World), (∀ i, i < ops.size → f i = true) → Inv f a w → Q .normal a w) :
    ∀ (fuel : Nat) (listed : Array Bool) (a : Act) (w : World), listed.size = ops.size → leftOf listed ≤ fuel → Inv (flags listed) a w → wpAny P md ops Q fuel listed a w := by
  intro fuel
  induction fuel with
  | zero =>
    intro listed a w hs hl h
    have hr : Region.ready md ops listed = [] := by
      rw [List.eq_nil_iff_forall_not_mem]
      intro i hi
      have := leftOf_set (mem_ready.1 hi).1
      omega
    exact ⟨hr, hdone _ _ _ (all_of_ready_nil hord hs hr) h⟩
  | succ fuel ih =>
    intro listed a w hs hl h
    refine ⟨fun hr => hdone _ _ _ (all_of_ready_nil hord hs hr) h, fun i hi => ?_⟩
    obtain ⟨h0, o, ho, hall⟩ := mem_ready.1 hi
    have hlt := (Array.getElem?_eq_some_iff.1 ho).1
    refine wpOp_mono (fun a' w' h' => ih (listed.setIfInBounds i true) a' w' (by simpa using hs) (by have := leftOf_set h0; omega) ?_) (hstep i hlt (flags listed) a w h0 (fun j hj => ?_) h)
    · rw [flags_set]; exact h'
    · obtain ⟨oj, hoj, e, he, hb, rfl⟩ := Region.waitsFor_spec hj
      rw [ho] at hoj; cases hoj
      exact flags_false (hall e he hb)
theorem flags_none (k i : Nat) : flags (Array.replicate k false) i = decide (k ≤ i) := by
  unfold flags
  rcases Nat.lt_or_ge i k with h | h
  · simp [h]
  · simp [h]
theorem leftOf_none (k : Nat) : leftOf (Array.replicate k false) ≤ k := by
  unfold leftOf
  have := List.countP_le_length (p := fun b => !b) (l := (Array.replicate k false).toList)
  simpa using this
end Go.Proofs.YteefodibpjgicaaGreat

/- A region that draws its order, by what is known of each operation's slot: over XAnyInv. -/
namespace Go.Proofs.YteefodibpjgicaaGreat
/-- What operations yielded, by their numbers. -/
def updT (t : Nat → Value) (i : Nat) (v : Value) : Nat → Value := fun j => if j = i then v else t j
@[simp] theorem updT_same (t : Nat → Value) (i : Nat) (v : Value) : updT t i v i = v := by simp [updT]
theorem updT_ne (t : Nat → Value) {i j : Nat} (v : Value) (h : j ≠ i) : updT t i v j = t j := by simp [updT, h]
/-- Of those that stand behind, the value that is known. -/
def Kn (Vs : List (Option Value)) (f : Nat → Bool) (t : Nat → Value) : Prop := ∀ j V, f j = true → Vs[j]? = some (some V) → t j = V
theorem Kn.none (Vs : List (Option Value)) (n : Nat) (h : Vs.length = n) (t : Nat → Value) : Kn Vs (flags (Array.replicate n false)) t := by
  intro j V hf hV
  rw [flags_none] at hf
  have h1 : n ≤ j := by simpa using hf
  rw [List.getElem?_eq_none (by omega)] at hV
  cases hV
theorem Kn.upd {Vs : List (Option Value)} {f : Nat → Bool} {t : Nat → Value} {i : Nat} {v : Value} (h : Kn Vs f t) (hv : ∀ V, Vs[i]? = some (some V) → v = V) : Kn Vs (updF f i) (updT t i v) := by
  intro j V hf hV
  by_cases e : j = i
  · subst e; rw [updT_same]; exact hv V hV
  · rw [updT_ne _ _ e]; rw [updF_ne _ e] at hf; exact h j V hf hV
theorem Kn.at_ {Vs : List (Option Value)} {f : Nat → Bool} {t : Nat → Value} {i : Nat} {v : Value} (h : Kn Vs f t) (hv : Vs[i]? = some (some v)) : Kn Vs (updF f i) (updT t i v) := h.upd (fun V e => by rw [hv] at e; cases e; rfl)
theorem Kn.free {Vs : List (Option Value)} {f : Nat → Bool} {t : Nat → Value} {i : Nat} {v : Value} (h : Kn Vs f t) (hv : Vs[i]? = some .none) : Kn Vs (updF f i) (updT t i v) := h.upd (fun V e => by rw [hv] at e; cases e)

/-- The rule. I f t W: the world, whichever operations stand behind; A t: the frame. -/
theorem wp_region_known {id n : Nat} {P : Program} {ops : Array Oper} {Q : Exit → Act → World → Prop} {a : Act} {w : World} (Vs : List (Option Value)) (A : (Nat → Value) → Act) (I : (Nat → Bool) → (Nat → Value) → World → Prop) (t0 : Nat → Value)
    (hm : P.follows .mixedOrders = true) (hn : ops.size = n) (hl : Vs.length = n) (hord : ordB .any ops = true) (ha : a = A t0) (h0 : I (fun i => decide (n ≤ i)) t0 w.drew)
    (hstep : ∀ i, i < n → ∀ (f : Nat → Bool) (t : Nat → Value) (W : World), f i = false → (∀ j, Region.waitsFor .any ops i j = true → f j = true) → Kn Vs f t → I f t W →
      wpOp P ops Q i (fun a' W' => ∃ v, a' = A (updT t i v) ∧ Kn Vs (updF f i) (updT t i v) ∧ I (updF f i) (updT t i v) W') (A t) W)
    (hdone : ∀ (f : Nat → Bool) (t : Nat → Value) (W : World), (∀ i, i < n → f i = true) → Kn Vs f t → I f t W → Q .normal (A t) W) :
    (Code.region id ops true).wp P Q a w := by
  subst hn
  refine wp_region_any hm ?_
  change wpAny _ _ _ _ _ _ _ w.drew
  refine wpAny_inv (fun f ac W => ∃ t, ac = A t ∧ Kn Vs f t ∧ I f t W) hord ?_ ?_ _ _ _ _ (by simp) (leftOf_none _) ⟨t0, ha, Kn.none Vs _ hl t0, ?_⟩
  · rintro i hi f ac W hfi hwt ⟨t, rfl, hk, hI⟩
    refine wpOp_mono ?_ (hstep i hi f t W hfi hwt hk hI)
    rintro a' W' ⟨v, h1, h2, h3⟩
    exact ⟨_, h1, h2, h3⟩
  · rintro f ac W hall ⟨t, rfl, hk, hI⟩
    exact hdone f t W hall hk hI
  · rw [show flags (Array.replicate ops.size false) = fun i => decide (ops.size ≤ i) from funext (flags_none _)]
    exact h0
end Go.Proofs.YteefodibpjgicaaGreat

/- The reference of layer 3: nodes that may be, made of any. -/
namespace Go.Proofs.YteefodibpjgicaaGreat
open Go.RowKit
/-- A new attribute of two calls' answers, in whatever order. -/
def AttI (wr : World) (av a1 a2 : ByteArray) (f : Nat → Bool) (t : Nat → Value) (W : World) : Prop :=
  Below wr.heap.size wr W ∧ (f 19 = true → f 23 = false → Sl W (t 19) (u8s av.data.toList)) ∧ (f 23 = true → f 22 = true ∧ f 20 = true) ∧
    (f 22 = true → ∃ ga, t 22 = .pointer (some ⟨ga, 0, none⟩) ∧ wr.heap.size ≤ ga ∧ Box W ga 43 (bif f 23 then [.string a1, .string a2] else [.string ⟨#[]⟩, .string ⟨#[]⟩]))

theorem AttI.start (wr : World) (av a1 a2 : ByteArray) (t : Nat → Value) {f : Nat → Bool} (h1 : f 19 = false) (h2 : f 22 = false) (h3 : f 23 = false) : AttI wr av a1 a2 f t wr.drew :=
  ⟨(Below.refl _ _).drew, (fun h => by rw [h1] at h; cases h), (fun h => by rw [h3] at h; cases h), (fun h => by rw [h2] at h; cases h)⟩

theorem AttI.next {wr W W' : World} {av a1 a2 : ByteArray} {f : Nat → Bool} {t : Nat → Value} (h : AttI wr av a1 a2 f t W) (hb : Below W.heap.size W W') : AttI wr av a1 a2 f t W' := by
  obtain ⟨h1, h2, h3, h4⟩ := h
  refine ⟨h1.trans (hb.mono h1.size), fun hf hg => (h2 hf hg).below hb, h3, fun hf => ?_⟩
  obtain ⟨ga, e, hg, hbx⟩ := h4 hf
  exact ⟨ga, e, hg, hbx.below hb hbx.lt⟩

theorem AttI.conv {wr W : World} {av a1 a2 : ByteArray} {f : Nat → Bool} {t : Nat → Value} {x : Value} (h : AttI wr av a1 a2 f t W) (hs : Sl W x (u8s av.data.toList)) : AttI wr av a1 a2 (updF f 19) (updT t 19 x) W :=
  ⟨h.1, fun _ _ => by rw [updT_same]; exact hs, h.2.2.1, h.2.2.2⟩

theorem AttI.right {wr W : World} {av a1 a2 : ByteArray} {f : Nat → Bool} {t : Nat → Value} {x : Value} (h : AttI wr av a1 a2 f t W) : AttI wr av a1 a2 (updF f 20) (updT t 20 x) W :=
  ⟨h.1, h.2.1, fun hf => ⟨(h.2.2.1 hf).1, updF_same _ _⟩, h.2.2.2⟩

theorem AttI.made {wr W : World} {av a1 a2 : ByteArray} {f : Nat → Bool} {t : Nat → Value} (h : AttI wr av a1 a2 f t W) (hf : f 22 = false) :
    AttI wr av a1 a2 (updF f 22) (updT t 22 (.pointer (some ⟨W.heap.size, 0, none⟩))) (W.alloc (.cells #[.string ⟨#[]⟩, .string ⟨#[]⟩] 43)) := by
  have h23 : f 23 = false := by
    cases h2 : f 23
    · rfl
    · rw [(h.2.2.1 h2).1] at hf; cases hf
  have hb : Below W.heap.size W (W.alloc (.cells #[.string ⟨#[]⟩, .string ⟨#[]⟩] 43)) := (Below.refl _ _).alloc (Nat.le_refl _) _
  have hn := h.next hb
  refine ⟨hn.1, hn.2.1, fun h => ⟨updF_same _ _, (hn.2.2.1 h).2⟩, fun _ => ⟨W.heap.size, rfl, h.1.size, ?_⟩⟩
  rw [updF_ne f (by decide), h23]
  exact Box.new W 43 [.string ⟨#[]⟩, .string ⟨#[]⟩]

theorem AttI.put {wr W : World} {av a1 a2 : ByteArray} {f : Nat → Bool} {t : Nat → Value} {ga : Nat} {v : Value} (h : AttI wr av a1 a2 f t W) (hf : f 22 = true) (hf2 : f 20 = true) (ht : t 22 = .pointer (some ⟨ga, 0, none⟩)) (hg : wr.heap.size ≤ ga) (hbx : Box W ga 43 [.string ⟨#[]⟩, .string ⟨#[]⟩]) :
    AttI wr av a1 a2 (updF f 23) (updT t 23 v) ((W.setCell ⟨ga, 0, none⟩ (.string a1)).setCell ⟨ga, 1, none⟩ (.string a2)) := by
  refine ⟨(h.1.setCell (p := ⟨ga, 0, none⟩) hg _).setCell (p := ⟨ga, 1, none⟩) hg _, (fun _ hf23 => by rw [updF_same] at hf23; cases hf23), fun _ => ⟨by rw [updF_ne f (by decide)]; exact hf, by rw [updF_ne f (by decide)]; exact hf2⟩, fun _ => ⟨ga, by rw [updT_ne t v (by decide)]; exact ht, hg, ?_⟩⟩
  rw [updF_same]
  exact (hbx.set 0 (.string a1)).set 1 (.string a2)

theorem cell_of_below {B : Nat} {w w' : World} (hb : Below B w w') {b o : Nat} {v : Value} (h : w.cell? ⟨b, o, none⟩ = some v) (hlt : b < B) : w'.cell? ⟨b, o, none⟩ = some v := (hb.cell (p := ⟨b, o, none⟩) hlt).trans h

end Go.Proofs.YteefodibpjgicaaGreat

/- The reference of layer 3: nodes that may be, made of any: Good. -/
namespace Go.Proofs.YteefodibpjgicaaGreat
open Go.RowKit
end Go.Proofs.YteefodibpjgicaaGreat

/- Layer 6: how great nodes are that were made stable. No program in it. -/
namespace Go.Proofs.YteefodibpjgicaaGreat
open Go.RowKit
end Go.Proofs.YteefodibpjgicaaGreat
