/- Texts joined: Math3g, Ref03g, Law03v, AnyInv, Region, Ref03h, Good, Turn, Law03y. -/
import Derived.OrdersIn
import Derived.StillTail
import Derived.RegionTactic
import Derived.Outline
import Derived.Deep.CutRange
import Derived.Deep.DeepCutAuto
import Derived.Test.YtjelmpajphajfaaG1
import Derived.Test.YtjelmpajphajfaaG2
import Derived.Test.YtjelmpajphajfaaG3
import Derived.Test.YtjelmpajphajfaaG4
/- Layer 3 by plain definitions: nodes that may be, made of any. No program in it. -/
namespace Go.Proofs.Ytjelmpajphajfaa
namespace M3

theorem nilB_empty : nilB ⟨#[]⟩ = true := nilB_iff.2 rfl
def wordsL : List ByteArray := [⟨#[97]⟩, ⟨#[98]⟩, ⟨#[112]⟩, ⟨#[117, 108]⟩, ⟨#[108, 105]⟩, ⟨#[98, 114]⟩, ⟨#[105, 109, 103]⟩, ⟨#[100, 105, 118]⟩, ⟨#[115, 99, 114, 105, 112, 116]⟩, ⟨#[120, 45, 121]⟩]
def attrsL : List ByteArray := [⟨#[105, 100]⟩, ⟨#[104, 114, 101, 102]⟩, ⟨#[116, 105, 116, 108, 101]⟩, ⟨#[100, 97, 116, 97, 45, 97]⟩, ⟨#[111, 110, 99, 108, 105, 99, 107]⟩]
def sumB (l : List UInt8) : Nat := (l.map UInt8.toNat).sum
def wordN (s : ByteArray) : ByteArray := if namedB s.data.toList then s else wordsL.getD (sumB s.data.toList % 10) ⟨#[]⟩
def attrN (s : ByteArray) : ByteArray := if attributedB s.data.toList then s else attrsL.getD (s.size % 5) ⟨#[]⟩
def rightN (s : ByteArray) : ByteArray := ⟨(M1.right s.data.toList).toArray⟩
theorem rightN_isB (s : ByteArray) : M1.isB (rightN s).data.toList = true := M1.isB_right _
theorem rightN_size (s : ByteArray) : (rightN s).size ≤ 4 * s.size := M1.right_len s.data.toList
theorem isB_lo (l : List UInt8) (h : ∀ c ∈ l, c.toNat < 128 ∧ c.toNat ≠ 0 ∧ c.toNat ≠ 13) : M1.isB l = true := by
  induction l with
  | nil => exact M1.isB_nil
  | cons c t ih =>
    obtain ⟨h1, h2, h3⟩ := h c (by simp)
    rw [M1.isB_step _ (by simp)]
    have hd : M1.dec (c :: t) = (c.toNat, 1) := M2.dec_lo c t h1
    rw [hd]
    have h4 : c.toNat ≠ 65533 := by omega
    simp [h2, h3, h4]
    exact ih (fun x hx => h x (by simp [hx]))
theorem wordsL_ok : ∀ i, i < 10 → namedB (wordsL.getD i ⟨#[]⟩).data.toList = true ∧ (wordsL.getD i ⟨#[]⟩).size ≤ 6 := by decide
theorem attrsL_low : ∀ i, i < 5 → ((attrsL.getD i ⟨#[]⟩).data.toList.all fun c => decide (c.toNat < 128 ∧ c.toNat ≠ 0 ∧ c.toNat ≠ 13)) = true ∧ !(attrsL.getD i ⟨#[]⟩).data.toList.isEmpty = true ∧ (attrsL.getD i ⟨#[]⟩).data.toList.any capB = false ∧ (attrsL.getD i ⟨#[]⟩).data.toList.any badB = false ∧ (attrsL.getD i ⟨#[]⟩).size ≤ 7 := by decide
theorem wordN_ok (s : ByteArray) : namedB (wordN s).data.toList = true := by
  unfold wordN
  split
  · assumption
  · exact (wordsL_ok _ (Nat.mod_lt _ (by decide))).1
theorem wordN_size (s : ByteArray) (b : Nat) (h : s.size ≤ b) (h6 : 6 ≤ b) : (wordN s).size ≤ b := by
  unfold wordN
  split
  · exact h
  · have := (wordsL_ok _ (Nat.mod_lt (sumB s.data.toList) (by decide : 0 < 10))).2; omega
theorem attrN_ok (s : ByteArray) : attributedB (attrN s).data.toList = true := by
  unfold attrN
  split
  · assumption
  · obtain ⟨h1, h2, h3, h4, _⟩ := attrsL_low _ (Nat.mod_lt s.size (by decide : 0 < 5))
    unfold attributedB
    have h5 : M1.isB (attrsL.getD (s.size % 5) ⟨#[]⟩).data.toList = true := isB_lo _ (fun c hc => by have := List.all_eq_true.1 h1 c hc; simpa using this)
    rw [h5, h3, h4]
    simpa using h2
theorem attrN_size (s : ByteArray) (b : Nat) (h : s.size ≤ b) (h7 : 7 ≤ b) : (attrN s).size ≤ b := by
  unfold attrN
  split
  · exact h
  · have := (attrsL_low _ (Nat.mod_lt s.size (by decide : 0 < 5))).2.2.2.2; omega

/-- Attributes: of one name the first. -/
def addA (acc : List Att) (a : Att) : List Att := if (valueOf (attrN a.name) acc).isSome then acc else acc ++ [⟨attrN a.name, rightN a.value⟩]
def goodA (l : List Att) : List Att := l.foldl addA []
theorem goodA_snoc (l : List Att) (a : Att) : goodA (l ++ [a]) = addA (goodA l) a := by simp [goodA]
def kindN (k : Int) : Int := if k < 1 ∨ 3 < k then 1 else k
def goodN : List Nd → List Nd
  | [] => []
  | .mk k n a t ks :: r => push' (if kindN k = 1 then .mk 1 (wordN n) (goodA a) ⟨#[]⟩ (merge (goodN ks)) else .mk (kindN k) ⟨#[]⟩ [] (rightN t) []) (goodN r)
termination_by l => SizeOf.sizeOf l
where push' (x : Nd) (r : List Nd) : List Nd := x :: r
theorem goodN_nil : goodN [] = [] := by rw [goodN]
def good1 (x : Nd) : Nd := if kindN x.kind = 1 then .mk 1 (wordN x.name) (goodA x.attrs) ⟨#[]⟩ (merge (goodN x.kids)) else .mk (kindN x.kind) ⟨#[]⟩ [] (rightN x.text) []
theorem good1_mk (k : Int) (n : ByteArray) (a : List Att) (t : ByteArray) (ks : List Nd) : good1 (.mk k n a t ks) = if kindN k = 1 then .mk 1 (wordN n) (goodA a) ⟨#[]⟩ (merge (goodN ks)) else .mk (kindN k) ⟨#[]⟩ [] (rightN t) [] := rfl
theorem goodN_cons (x : Nd) (r : List Nd) : goodN (x :: r) = good1 x :: goodN r := by cases x; rw [goodN]; rfl
theorem goodN_map (l : List Nd) : goodN l = l.map good1 := by
  induction l with
  | nil => exact goodN_nil
  | cons x r ih => rw [goodN_cons, ih]; rfl
/-- Nodes that may be, made of any. -/
def good (l : List Nd) : List Nd := merge (goodN l)

theorem addA_len (acc : List Att) (a : Att) : (addA acc a).length ≤ acc.length + 1 := by unfold addA; split <;> simp
theorem goodA_len (l : List Att) : (goodA l).length ≤ l.length := by
  have key : ∀ (l acc : List Att), (l.foldl addA acc).length ≤ acc.length + l.length := by
    intro l
    induction l with
    | nil => intro acc; exact Nat.le_refl _
    | cons a r ih => intro acc; have h1 := ih (addA acc a); have h2 := addA_len acc a; rw [List.foldl_cons, List.length_cons]; omega
  have := key l []
  simpa [goodA] using this
theorem valueOf_none (nm : ByteArray) (l : List Att) : valueOf nm l = none ↔ ∀ a ∈ l, eqB a.name nm = false := by
  induction l with
  | nil => simp [valueOf]
  | cons a r ih =>
    rw [valueOf]
    cases h : eqB a.name nm
    · simp [ih, h]
    · simp [h]
/-- What each attribute that is put keeps. -/
theorem goodA_all {P : Att → Prop} (l : List Att) (h : ∀ a ∈ l, P ⟨attrN a.name, rightN a.value⟩) : ∀ a ∈ goodA l, P a := by
  have key : ∀ (l acc : List Att), (∀ a ∈ l, P ⟨attrN a.name, rightN a.value⟩) → (∀ a ∈ acc, P a) → ∀ a ∈ l.foldl addA acc, P a := by
    intro l
    induction l with
    | nil => intro acc _ h; exact h
    | cons a r ih =>
      intro acc h1 h2
      rw [List.foldl_cons]
      refine ih _ (fun x hx => h1 x (by simp [hx])) ?_
      unfold addA
      split
      · exact h2
      · intro x hx
        rcases List.mem_append.1 hx with hx | hx
        · exact h2 x hx
        · simp at hx; subst hx; exact h1 a (by simp)
  exact key l [] h (fun a ha => by cases ha)
def Uniq : List Att → Prop
  | [] => True
  | a :: r => (∀ b ∈ r, eqB b.name a.name = false) ∧ Uniq r
theorem uniq_snoc {l : List Att} {a : Att} (h : Uniq l) (ha : ∀ b ∈ l, eqB b.name a.name = false) : Uniq (l ++ [a]) := by
  induction l with
  | nil => exact ⟨(fun b hb => by cases hb), trivial⟩
  | cons b r ih =>
    refine ⟨fun c hc => ?_, ih h.2 (fun c hc => ha c (by simp [hc]))⟩
    rcases List.mem_append.1 hc with hc | hc
    · exact h.1 c hc
    · simp at hc; subst hc
      have := ha b (by simp)
      rw [eqB_false] at this ⊢
      exact fun e => this e.symm
theorem goodA_uniq (l : List Att) : Uniq (goodA l) := by
  have key : ∀ (l acc : List Att), Uniq acc → Uniq (l.foldl addA acc) := by
    intro l
    induction l with
    | nil => intro acc h; exact h
    | cons a r ih =>
      intro acc h
      rw [List.foldl_cons]
      refine ih _ ?_
      unfold addA
      split
      · exact h
      · rename_i hn
        have hn' : valueOf (attrN a.name) acc = none := by
          cases hv : valueOf (attrN a.name) acc with
          | none => rfl
          | some _ => rw [hv] at hn; simp at hn
        exact uniq_snoc h ((valueOf_none _ _).1 hn')
  exact key l [] trivial
theorem names_ok (l : List Att) : ∀ seen : List ByteArray, (∀ a ∈ l, attributedB a.name.data.toList = true) → Uniq l → (∀ a ∈ l, ∀ s ∈ seen, eqB a.name s = false) → namesE seen l = 0 := by
  induction l with
  | nil => intro seen _ _ _; rfl
  | cons a r ih =>
    intro seen h1 h2 h3
    have hs : seen.any (eqB a.name) = false := by
      rw [List.any_eq_false]
      intro s hs
      simpa using h3 a (by simp) s hs
    rw [namesE, h1 a (by simp), if_pos rfl, hs, if_neg (by simp)]
    refine ih _ (fun b hb => h1 b (by simp [hb])) h2.2 (fun b hb s hs => ?_)
    rcases List.mem_append.1 hs with hs | hs
    · exact h3 b (by simp [hb]) s hs
    · simp at hs; subst hs; exact h2.1 b hb
theorem values_ok (l : List Att) (h : ∀ a ∈ l, M1.isB a.value.data.toList = true) : valuesE l = 0 := by
  induction l with
  | nil => rfl
  | cons a r ih => rw [valuesE, h a (by simp), if_pos rfl, ih (fun b hb => h b (by simp [hb]))]
theorem kindN_in (k : Int) : kindN k = 1 ∨ kindN k = 2 ∨ kindN k = 3 := by unfold kindN; split <;> omega
theorem good_ok (l : List Nd) : ∀ x ∈ goodN l, okP x := by
  induction l using Nd.ind with
  | h0 => intro x hx; rw [goodN_nil] at hx; cases hx
  | h1 k n at_ t ks r ih1 ih2 =>
    intro x hx
    rw [goodN_cons] at hx
    rcases List.mem_cons.1 hx with rfl | hx
    · rw [good1_mk]
      by_cases h1 : kindN k = 1
      · rw [if_pos h1]
        have hk : isText (.mk 1 (wordN n) (goodA at_) ⟨#[]⟩ (merge (goodN ks))) = false := rfl
        unfold okP
        rw [hk, if_neg (by simp)]
        refine ⟨?_, may_merge _ ih1⟩
        show elemE _ = 0
        show (if nilB ⟨#[]⟩ = true then (if namedB (wordN n).data.toList = true then (if namesE [] (goodA at_) = 0 then valuesE (goodA at_) else namesE [] (goodA at_)) else 4) else 7) = (0 : Int)
        rw [nilB_empty, wordN_ok, names_ok _ [] (goodA_all at_ (fun a _ => attrN_ok _)) (goodA_uniq _) (fun _ _ s hs => by cases hs), values_ok _ (goodA_all at_ (fun a _ => rightN_isB _))]
        rfl
      · rw [if_neg h1]
        rcases kindN_in k with h | h | h
        · exact absurd h h1
        · rw [h]
          exact ⟨by show (nilB ⟨#[]⟩ && ([] : List Att).isEmpty && ([] : List Nd).isEmpty) = true; rw [nilB_empty]; rfl, rightN_isB t⟩
        · rw [h]
          refine ⟨?_, mayE_nil _⟩
          show (if (nilB ⟨#[]⟩ && ([] : List Att).isEmpty && ([] : List Nd).isEmpty) = true then (if M1.isB (rightN t).data.toList = true then (0 : Int) else 2) else 7) = 0
          rw [nilB_empty, rightN_isB]; rfl
    · exact ih2 x hx
theorem good_may (l : List Nd) : mayE false (good l) = 0 := may_merge _ (good_ok l)
end M3
end Go.Proofs.Ytjelmpajphajfaa

/- The reference of layer 3: an element's name, an attribute's name, of any text. -/
namespace Go.Proofs.Ytjelmpajphajfaa
open Go.RowKit

theorem sumB_succ (l : List UInt8) (k : Nat) (h : k < l.length) : M3.sumB (l.take (k + 1)) = M3.sumB (l.take k) + l[k].toNat := by
  unfold M3.sumB
  rw [List.take_succ_eq_append_getElem h, List.map_append, List.sum_append]
  simp
theorem sumB_le (l : List UInt8) : M3.sumB l ≤ 255 * l.length := by
  unfold M3.sumB
  induction l with
  | nil => simp
  | cons c r ih => simp only [List.map_cons, List.sum_cons, List.length_cons]; have := c.toNat_lt; omega
def StrPost (s : ByteArray) (w : World) (e : Ending) (w' : World) : Prop := e = .returned (.string s) ∧ Below w.heap.size w w'

set_option maxHeartbeats 4000000 in
set_option maxRecDepth 100000 in
theorem ref03Word (s : ByteArray) (w : World) (hs : s.size ≤ 1073741824) : Calls Try.prog 75 #[.string s] w (StrPost (M3.wordN s) w) := by
  have hN := Lib.hid (fun W => ref03Named s W (by omega))
  have hw : Hid (M3.wordN s = if M3.namedB s.data.toList then s else M3.wordsL.getD (M3.sumB s.data.toList % 10) ⟨#[]⟩) := rfl
  generalize M3.namedB s.data.toList = p at *
  have hbx := Box.new w 9 (M3.wordsL.map Value.string)
  have hb0 : Below w.heap.size w (w.alloc (.cells (M3.wordsL.map Value.string).toArray 9)) := (Below.refl _ _).alloc (Nat.le_refl _) _
  have hlen : s.data.toList.length = s.size := rfl
  have hle := sumB_le s.data.toList
  go_enter Try.func75, Try.ntmps75
  go_wp2_with fail
  obtain ⟨W0, hW0⟩ : ∃ W0, w.alloc (.cells (M3.wordsL.map Value.string).toArray 9) = W0 := ⟨_, rfl⟩
  rw [hW0] at hbx hb0
  change w.alloc (.cells #[.string ⟨#[97]⟩, .string ⟨#[98]⟩, .string ⟨#[112]⟩, .string ⟨#[117, 108]⟩, .string ⟨#[108, 105]⟩, .string ⟨#[98, 114]⟩, .string ⟨#[105, 109, 103]⟩, .string ⟨#[100, 105, 118]⟩, .string ⟨#[115, 99, 114, 105, 112, 116]⟩, .string ⟨#[120, 45, 121]⟩] 9) = W0 at hW0
  rw [hW0]
  clear hW0
  go_loop [4, 5] (fun u4 u5 => ∃ k : Nat, k ≤ s.size ∧ u5 = .int .i64 (k : Int) ∧ u4 = .int .i64 (M3.sumB (s.data.toList.take k) : Int)) (fun _ u5 => s.size - (intOf u5).toNat)
  case atStart => exact ⟨0, by omega, rfl, by simp [M3.sumB]⟩
  case round =>
    obtain ⟨k, hk, rfl, rfl⟩ := hrel
    have hl2 := sumB_le (s.data.toList.take k)
    have hl3 : (s.data.toList.take k).length ≤ k := List.length_take_le _ _
    by_cases hlt : k < s.size
    · have hsu := sumB_succ s.data.toList k hlt
      have hsu2 : Hid (M3.sumB (s.data.toList.take (k + 1)) = M3.sumB (s.data.toList.take k) + s[k].toNat) := hsu
      clear hsu
      have hb := s[k].toNat_lt
      generalize M3.sumB (s.data.toList.take k) = m at *
      go_wp2_with fail
      go_round
      case rel => exact ⟨k + 1, by omega, by go_num, by rw [hsu2.out]; go_num⟩
      case measure => exact meas_nat hlt
    · obtain rfl : k = s.size := by omega
      rw [List.take_of_length_le (show s.data.toList.length ≤ s.size from Nat.le_refl _)] at *
      generalize M3.sumB s.data.toList = m at *
      cases p
      · replace hw : Hid (M3.wordN s = M3.wordsL.getD (m % 10) ⟨#[]⟩) := hw
        go_wp2_with fail
        refine (hN.out _).mono ?_
        rintro e w1 ⟨rfl, rfl⟩
        have hm10 : m % 10 < 10 := Nat.mod_lt _ (by decide)
        have hcell := hbx.cell (i := m % 10) (v := .string (M3.wordsL.getD (m % 10) ⟨#[]⟩)) (by
          rw [List.getElem?_map, List.getElem?_eq_getElem (by exact hm10), List.getD_eq_getElem?_getD, List.getElem?_eq_getElem (by exact hm10)]; rfl)
        generalize M3.wordsL.getD (m % 10) ⟨#[]⟩ = ans at *
        have hm0 : (0 : Int) ≤ (m : Int) := by omega
        have hmi : (m : Int) % 10 = ((m % 10 : Nat) : Int) := by omega
        have hmj : ((m % 10 : Nat) : Int) < 10 := by omega
        generalize m % 10 = j at *
        go_wp2_with fail
        go_ret
        exact ⟨by rw [hw.out]; rfl, hb0⟩
      · replace hw : Hid (M3.wordN s = s) := hw
        go_wp2_with fail
        refine (hN.out _).mono ?_
        rintro e w1 ⟨rfl, rfl⟩
        go_wp2_with fail
        go_ret
        exact ⟨by rw [hw.out]; rfl, hb0⟩

set_option maxHeartbeats 4000000 in
set_option maxRecDepth 100000 in
theorem ref03Attribute (s : ByteArray) (w : World) (hs : s.size ≤ 268435456) : Calls Try.prog 76 #[.string s] w (StrPost (M3.attrN s) w) := by
  have hN := Lib.hid (ref03Attributed s w hs)
  have hw : Hid (M3.attrN s = if M3.attributedB s.data.toList then s else M3.attrsL.getD (s.size % 5) ⟨#[]⟩) := rfl
  generalize M3.attributedB s.data.toList = p at *
  go_enter Try.func76, Try.ntmps76
  go_wp2_with fail
  refine hN.out.mono ?_
  rintro e w1 ⟨rfl, hb1⟩
  cases p
  · replace hw : Hid (M3.attrN s = M3.attrsL.getD (s.size % 5) ⟨#[]⟩) := hw
    have hbx := Box.new w1 9 (M3.attrsL.map Value.string)
    have hb0 : Below w1.heap.size w1 (w1.alloc (.cells (M3.attrsL.map Value.string).toArray 9)) := (Below.refl _ _).alloc (Nat.le_refl _) _
    have hm10 : s.size % 5 < 5 := Nat.mod_lt _ (by decide)
    have hcell := hbx.cell (i := s.size % 5) (v := .string (M3.attrsL.getD (s.size % 5) ⟨#[]⟩)) (by
      rw [List.getElem?_map, List.getElem?_eq_getElem (by exact hm10), List.getD_eq_getElem?_getD, List.getElem?_eq_getElem (by exact hm10)]; rfl)
    have hbb : Below w.heap.size w (w1.alloc (.cells (M3.attrsL.map Value.string).toArray 9)) := bt hb1 hb0
    change (w1.alloc (.cells #[.string ⟨#[105, 100]⟩, .string ⟨#[104, 114, 101, 102]⟩, .string ⟨#[116, 105, 116, 108, 101]⟩, .string ⟨#[100, 97, 116, 97, 45, 97]⟩, .string ⟨#[111, 110, 99, 108, 105, 99, 107]⟩] 9)).cell? _ = _ at hcell
    change Below w.heap.size w (w1.alloc (.cells #[.string ⟨#[105, 100]⟩, .string ⟨#[104, 114, 101, 102]⟩, .string ⟨#[116, 105, 116, 108, 101]⟩, .string ⟨#[100, 97, 116, 97, 45, 97]⟩, .string ⟨#[111, 110, 99, 108, 105, 99, 107]⟩] 9)) at hbb
    generalize M3.attrsL.getD (s.size % 5) ⟨#[]⟩ = ans at *
    have hmi : (s.size : Int) % 5 = ((s.size % 5 : Nat) : Int) := by omega
    have hmj : ((s.size % 5 : Nat) : Int) < 5 := by omega
    have hmk : (0 : Int) ≤ (s.size : Int) := by omega
    generalize s.size % 5 = j at *
    clear hbx hb0
    go_wp2_with fail
    go_ret
    exact ⟨by rw [hw.out]; rfl, hbb⟩
  · replace hw : Hid (M3.attrN s = s) := hw
    go_wp2_with fail
    go_ret
    exact ⟨by rw [hw.out]; rfl, hb1⟩
end Go.Proofs.Ytjelmpajphajfaa

/- Layer 3: values of attributes. -/
namespace Go.Proofs.Ytjelmpajphajfaa
open Go.RowKit

set_option maxHeartbeats 1000000 in
set_option maxRecDepth 100000 in
theorem ref03Value (S : Nat → Prop) (x : Nd) (va vk : Value) (name : ByteArray) (w : World) (hS : ∀ b, S b → b < w.heap.size) (hat : Row S w 2 va x.attrs.length (cellsA x.attrs)) (hvk : ∃ a n c, vk = .slice a n c) :
    Calls Try.prog 77 #[x.val va vk, .string name] w fun e w' => e = .returned (valAns (M3.valueOf name x.attrs)) ∧ Below w.heap.size w w' := by
  obtain ⟨a, cap, rfl⟩ := hat.slice
  obtain ⟨_, hlc, hcm⟩ := hat.len
  obtain ⟨a2, n2, cap2, rfl⟩ := hvk
  cases x with | mk k n ats t ks =>
  simp only [Nd.attrs] at hat hlc hcm ⊢
  simp only [Nd.val, Nd.kind, Nd.name, Nd.text]
  have bx := Box.new w 28 [.int .i64 k, .string n, .slice a ats.length cap, .string t, .slice a2 n2 cap2]
  have hb := (Below.refl w.heap.size w).alloc (Nat.le_refl _) (.cells #[.int .i64 k, .string n, .slice a ats.length cap, .string t, .slice a2 n2 cap2] 28)
  have hat1 := hat.below hS hb
  have c2 := bx.cell (i := 2) rfl
  have hz : w.heap.size < (w.alloc (.cells #[.int .i64 k, .string n, .slice a ats.length cap, .string t, .slice a2 n2 cap2] 28)).heap.size := by simp
  go_enter Try.func77, Try.ntmps77
  change Box (w.alloc (.cells #[.int .i64 k, .string n, .slice a ats.length cap, .string t, .slice a2 n2 cap2] 28)) _ _ _ at bx
  change (w.alloc (.cells #[.int .i64 k, .string n, .slice a ats.length cap, .string t, .slice a2 n2 cap2] 28)).cell? _ = _ at c2
  go_wp2
  obtain ⟨W, hW⟩ : ∃ W, w.alloc (.cells #[.int .i64 k, .string n, .slice a ats.length cap, .string t, .slice a2 n2 cap2] 28) = W := ⟨_, rfl⟩
  rw [hW] at c2 hb hat1 hz ⊢
  clear hW bx hat
  go_loop [6] (fun u6 => ∃ i : Nat, i ≤ ats.length ∧ u6 = .int .i64 (i : Int) ∧ Hid (M3.valueOf name ats = M3.valueOf name (ats.drop i))) (fun u6 => ats.length - (intOf u6).toNat)
  case atStart => exact ⟨0, by omega, rfl, rfl⟩
  case round =>
    obtain ⟨i, hi, rfl, hv⟩ := hrel
    by_cases hlt : i < ats.length
    · obtain ⟨b, off, rfl, hSb, c0, c1⟩ := hat1.atA i hlt
      have hvd := M3.valueOf_drop name ats i hlt
      generalize ats[i].name = nm at *
      generalize ats[i].value = vl at *
      have hq : Hid (M3.eqB nm name = (nm.toList == name.toList)) := rfl
      cases he : (nm.toList == name.toList)
      · rw [hq.out, he] at hvd
        replace hvd := Lib.hid (hv.out.trans hvd)
        clear hv hq
        go_wp2
        go_round
        case rel => exact ⟨i + 1, by omega, by go_num, hvd.out⟩
        case measure => simp [intOf]; omega
      · rw [hq.out, he] at hvd
        replace hvd := Lib.hid (hv.out.trans hvd)
        clear hv hq
        go_wp2
        go_ret2
        exact ⟨by rw [hvd.out]; rfl, hb⟩
    · have hvd : Hid (M3.valueOf name ats = none) := by show _ = _; rw [hv.out, List.drop_of_length_le (by omega)]; rfl
      go_wp2
      go_ret2
      exact ⟨by rw [hvd.out]; rfl, hb⟩

theorem infoS : (Try.prog.info? 9).map (fun i => (i.zero, i.size, i.bytes)) = some (some (.string ⟨#[]⟩), 1, 16) := by kernel_rfl
theorem valAns_mk (o : Option ByteArray) : ∃ s b, valAns o = .tuple #[.string s, .bool b] := ⟨_, _, rfl⟩
theorem cut_attrs (x : Nd) : (fewN [x]) = [.mk x.kind (M3.few x.name) ((x.attrs.take 5).map M3.fewA) (M3.few x.text) (M3.cut x.kids 39).1] := by
  unfold fewN
  rw [show (40 : Nat) = 39 + 1 from rfl, M3.cut_cons, M3.cut_nil]
abbrev strs (l : List ByteArray) : List Value := l.map Value.string


end Go.Proofs.Ytjelmpajphajfaa

/- A region that draws its order, by a state of my own: what holds whichever operations stand behind. -/
namespace Go.Proofs.Ytjelmpajphajfaa

def updF (f : Nat → Bool) (i : Nat) : Nat → Bool := fun j => if j = i then true else f j
@[simp] theorem updF_same (f : Nat → Bool) (i : Nat) : updF f i i = true := by simp [updF]
theorem updF_ne (f : Nat → Bool) {i j : Nat} (h : j ≠ i) : updF f i j = f j := by simp [updF, h]
/-- Each operation waits for earlier ones alone. -/
def ordB (md : Region.Mode) (ops : Array Oper) : Bool :=
  (List.range ops.size).all fun i => match ops[i]? with | some o => o.after.all fun e => !Region.binds md e || decide (e.on < i) | none => true
theorem ordB_spec {md : Region.Mode} {ops : Array Oper} (h : ordB md ops = true) {i : Nat} {o : Oper} (hi : ops[i]? = some o) {e : Edge} (he : e ∈ o.after) (hb : Region.binds md e = true) : e.on < i := by
  have hlt := (Array.getElem?_eq_some_iff.1 hi).1
  unfold ordB at h
  rw [List.all_eq_true] at h
  have := h i (List.mem_range.2 hlt)
  rw [hi] at this
  simp only [Array.all_eq_true_iff_forall_mem, Bool.or_eq_true, Bool.not_eq_true', decide_eq_true_eq] at this
  rcases this e he with h | h
  · rw [hb] at h; cases h
  · exact h
def flags (listed : Array Bool) : Nat → Bool := fun i => listed.getD i true
theorem flags_set (listed : Array Bool) (i : Nat) : flags (listed.setIfInBounds i true) = updF (flags listed) i := by
  funext j
  unfold flags updF
  by_cases h : j = i
  · subst h
    rcases Nat.lt_or_ge j listed.size with h | h
    · simp [h]
    · simp
  · rw [if_neg h, getD_set_ne true (Ne.symm h)]
theorem flags_false {listed : Array Bool} {i : Nat} (h : listed.getD i false = true) : flags listed i = true := by
  unfold flags
  rcases Nat.lt_or_ge i listed.size with h' | h'
  · simp [h'] at h ⊢; exact h
  · simp [Array.getElem?_eq_none h'] at h
theorem false_flags {listed : Array Bool} {i : Nat} (hi : i < listed.size) (h : flags listed i = true) : listed.getD i false = true := by
  unfold flags at h
  simp [hi] at h ⊢; exact h

theorem all_of_ready_nil {md : Region.Mode} {ops : Array Oper} (hord : ordB md ops = true) {listed : Array Bool} (hs : listed.size = ops.size) (hr : Region.ready md ops listed = []) :
    ∀ i, i < ops.size → flags listed i = true := by
  intro i
  induction i using Nat.strongRecOn with
  | ind i ih =>
    intro hi
    cases hf : flags listed i with
    | true => rfl
    | false =>
      have : i ∈ Region.ready md ops listed := mem_ready.2 ⟨hf, ops[i], Array.getElem?_eq_getElem hi, fun e he hb => by
        have hlt := ordB_spec hord (Array.getElem?_eq_getElem hi) he hb
        exact false_flags (by rw [hs]; exact Nat.lt_trans hlt hi) (ih e.on hlt (Nat.lt_trans hlt hi))⟩
      rw [hr] at this; cases this

def leftOf (listed : Array Bool) : Nat := listed.toList.countP (fun b => !b)
theorem leftOf_set {listed : Array Bool} {i : Nat} (h : flags listed i = false) : leftOf (listed.setIfInBounds i true) + 1 = leftOf listed := by
  have hi : i < listed.size := by
    rcases Nat.lt_or_ge i listed.size with h' | h'
    · exact h'
    · simp [flags, Array.getElem?_eq_none h'] at h
  have hv : listed.toList[i]'(by simpa using hi) = false := by simpa [flags, hi] using h
  unfold leftOf
  rw [Array.toList_setIfInBounds]
  have h2 : i < listed.toList.length := by simpa using hi
  rw [List.countP_set h2, hv]
  have hp : 0 < listed.toList.countP (fun b => !b) := List.countP_pos_iff.2 ⟨false, by rw [← hv]; exact List.getElem_mem h2, rfl⟩
  simp only [Bool.not_true, Bool.not_false, if_true, Bool.false_eq_true, if_false]
  omega

theorem wpAnyIn_inv {F : Fence} {n : Nat} {P : Program} {md : Region.Mode} {ops : Array Oper} {Q : Exit → Act → World → Prop} (Inv : (Nat → Bool) → Act → World → Prop) (hord : ordB md ops = true)
    (hstep : ∀ i, i < ops.size → ∀ (f : Nat → Bool) (a : Act) (w : World), f i = false → (∀ j, Region.waitsFor md ops i j = true → f j = true) → Inv f a w → wpOpIn F n P ops Q i (Inv (updF f i)) a w)
    (hdone : ∀ (f : Nat → Bool) (a : Act) (w : World), (∀ i, i < ops.size → f i = true) → Inv f a w → Q .normal a w) :
    ∀ (fuel : Nat) (listed : Array Bool) (a : Act) (w : World), listed.size = ops.size → leftOf listed ≤ fuel → Inv (flags listed) a w → wpAnyIn F n P md ops Q fuel listed a w := by
  intro fuel
  induction fuel with
  | zero =>
    intro listed a w hs hl h
    have hr : Region.ready md ops listed = [] := by
      rw [List.eq_nil_iff_forall_not_mem]
      intro i hi
      have := leftOf_set (mem_ready.1 hi).1
      omega
    exact ⟨hr, hdone _ _ _ (all_of_ready_nil hord hs hr) h⟩
  | succ fuel ih =>
    intro listed a w hs hl h
    refine ⟨fun hr => hdone _ _ _ (all_of_ready_nil hord hs hr) h, fun i hi => ?_⟩
    obtain ⟨h0, o, ho, hall⟩ := mem_ready.1 hi
    have hlt := (Array.getElem?_eq_some_iff.1 ho).1
    refine wpOpIn_mono (fun a' w' h' => ih (listed.setIfInBounds i true) a' w' (by simpa using hs) (by have := leftOf_set h0; omega) ?_) (hstep i hlt (flags listed) a w h0 (fun j hj => ?_) h)
    · rw [flags_set]; exact h'
    · obtain ⟨oj, hoj, e, he, hb, rfl⟩ := Region.waitsFor_spec hj
      rw [ho] at hoj; cases hoj
      exact flags_false (hall e he hb)
theorem wpAny_inv {P : Program} {md : Region.Mode} {ops : Array Oper} {Q : Exit → Act → World → Prop} (Inv : (Nat → Bool) → Act → World → Prop) (hord : ordB md ops = true)
    (hstep : ∀ i, i < ops.size → ∀ (f : Nat → Bool) (a : Act) (w : World), f i = false → (∀ j, Region.waitsFor md ops i j = true → f j = true) → Inv f a w → wpOp P ops Q i (Inv (updF f i)) a w)
    (hdone : ∀ (f : Nat → Bool) (a : Act) (w : World), (∀ i, i < ops.size → f i = true) → Inv f a w → Q .normal a w) :
    ∀ (fuel : Nat) (listed : Array Bool) (a : Act) (w : World), listed.size = ops.size → leftOf listed ≤ fuel → Inv (flags listed) a w → wpAny P md ops Q fuel listed a w := by
  intro fuel
  induction fuel with
  | zero =>
    intro listed a w hs hl h
    have hr : Region.ready md ops listed = [] := by
      rw [List.eq_nil_iff_forall_not_mem]
      intro i hi
      have := leftOf_set (mem_ready.1 hi).1
      omega
    exact ⟨hr, hdone _ _ _ (all_of_ready_nil hord hs hr) h⟩
  | succ fuel ih =>
    intro listed a w hs hl h
    refine ⟨fun hr => hdone _ _ _ (all_of_ready_nil hord hs hr) h, fun i hi => ?_⟩
    obtain ⟨h0, o, ho, hall⟩ := mem_ready.1 hi
    have hlt := (Array.getElem?_eq_some_iff.1 ho).1
    refine wpOp_mono (fun a' w' h' => ih (listed.setIfInBounds i true) a' w' (by simpa using hs) (by have := leftOf_set h0; omega) ?_) (hstep i hlt (flags listed) a w h0 (fun j hj => ?_) h)
    · rw [flags_set]; exact h'
    · obtain ⟨oj, hoj, e, he, hb, rfl⟩ := Region.waitsFor_spec hj
      rw [ho] at hoj; cases hoj
      exact flags_false (hall e he hb)
theorem flags_none (k i : Nat) : flags (Array.replicate k false) i = decide (k ≤ i) := by
  unfold flags
  rcases Nat.lt_or_ge i k with h | h
  · simp [h]
  · simp [h]
theorem leftOf_none (k : Nat) : leftOf (Array.replicate k false) ≤ k := by
  unfold leftOf
  have := List.countP_le_length (p := fun b => !b) (l := (Array.replicate k false).toList)
  simpa using this
end Go.Proofs.Ytjelmpajphajfaa

/- A region that draws its order, by what is known of each operation's slot: over XAnyInv. -/
namespace Go.Proofs.Ytjelmpajphajfaa

/-- What operations yielded, by their numbers. -/
def updT (t : Nat → Value) (i : Nat) (v : Value) : Nat → Value := fun j => if j = i then v else t j
@[simp] theorem updT_same (t : Nat → Value) (i : Nat) (v : Value) : updT t i v i = v := by simp [updT]
theorem updT_ne (t : Nat → Value) {i j : Nat} (v : Value) (h : j ≠ i) : updT t i v j = t j := by simp [updT, h]
/-- Of those that stand behind, the value that is known. -/
def Kn (Vs : List (Option Value)) (f : Nat → Bool) (t : Nat → Value) : Prop := ∀ j V, f j = true → Vs[j]? = some (some V) → t j = V
theorem Kn.none (Vs : List (Option Value)) (n : Nat) (h : Vs.length = n) (t : Nat → Value) : Kn Vs (flags (Array.replicate n false)) t := by
  intro j V hf hV
  rw [flags_none] at hf
  have h1 : n ≤ j := by simpa using hf
  rw [List.getElem?_eq_none (by omega)] at hV
  cases hV
theorem Kn.upd {Vs : List (Option Value)} {f : Nat → Bool} {t : Nat → Value} {i : Nat} {v : Value} (h : Kn Vs f t) (hv : ∀ V, Vs[i]? = some (some V) → v = V) : Kn Vs (updF f i) (updT t i v) := by
  intro j V hf hV
  by_cases e : j = i
  · subst e; rw [updT_same]; exact hv V hV
  · rw [updT_ne _ _ e]; rw [updF_ne _ e] at hf; exact h j V hf hV
theorem Kn.at_ {Vs : List (Option Value)} {f : Nat → Bool} {t : Nat → Value} {i : Nat} {v : Value} (h : Kn Vs f t) (hv : Vs[i]? = some (some v)) : Kn Vs (updF f i) (updT t i v) := h.upd (fun V e => by rw [hv] at e; cases e; rfl)
theorem Kn.free {Vs : List (Option Value)} {f : Nat → Bool} {t : Nat → Value} {i : Nat} {v : Value} (h : Kn Vs f t) (hv : Vs[i]? = some .none) : Kn Vs (updF f i) (updT t i v) := h.upd (fun V e => by rw [hv] at e; cases e)

/-- The rule. I f t W: the world, whichever operations stand behind; A t: the frame. -/
theorem wp_region_known {id n : Nat} {P : Program} {ops : Array Oper} {Q : Exit → Act → World → Prop} {a : Act} {w : World} (Vs : List (Option Value)) (A : (Nat → Value) → Act) (I : (Nat → Bool) → (Nat → Value) → World → Prop) (t0 : Nat → Value)
    (hm : P.follows .mixedOrders = true) (hn : ops.size = n) (hl : Vs.length = n) (hord : ordB .any ops = true) (ha : a = A t0) (h0 : I (fun i => decide (n ≤ i)) t0 w.drew)
    (hstep : ∀ i, i < n → ∀ (f : Nat → Bool) (t : Nat → Value) (W : World), f i = false → (∀ j, Region.waitsFor .any ops i j = true → f j = true) → Kn Vs f t → I f t W →
      wpOp P ops Q i (fun a' W' => ∃ v, a' = A (updT t i v) ∧ Kn Vs (updF f i) (updT t i v) ∧ I (updF f i) (updT t i v) W') (A t) W)
    (hdone : ∀ (f : Nat → Bool) (t : Nat → Value) (W : World), (∀ i, i < n → f i = true) → Kn Vs f t → I f t W → Q .normal (A t) W) :
    (Code.region id ops true).wp P Q a w := by
  subst hn
  refine wp_region_any hm ?_
  change wpAny _ _ _ _ _ _ _ w.drew
  refine wpAny_inv (fun f ac W => ∃ t, ac = A t ∧ Kn Vs f t ∧ I f t W) hord ?_ ?_ _ _ _ _ (by simp) (leftOf_none _) ⟨t0, ha, Kn.none Vs _ hl t0, ?_⟩
  · rintro i hi f ac W hfi hwt ⟨t, rfl, hk, hI⟩
    refine wpOp_mono ?_ (hstep i hi f t W hfi hwt hk hI)
    rintro a' W' ⟨v, h1, h2, h3⟩
    exact ⟨_, h1, h2, h3⟩
  · rintro f ac W hall ⟨t, rfl, hk, hI⟩
    exact hdone f t W hall hk hI
  · rw [show flags (Array.replicate ops.size false) = fun i => decide (ops.size ≤ i) from funext (flags_none _)]
    exact h0
end Go.Proofs.Ytjelmpajphajfaa

/- The reference of layer 3: nodes that may be, made of any. -/
namespace Go.Proofs.Ytjelmpajphajfaa
open Go.RowKit

/-- All texts are short. -/
def Sm1 (x : Nd) : Prop := x.name.size ≤ 30 ∧ x.text.size ≤ 30 ∧ ∀ a ∈ x.attrs, a.name.size ≤ 30 ∧ a.value.size ≤ 30
def Sm30 : List Nd → Prop
  | [] => True
  | .mk k n a t ks :: r => Sm1 (.mk k n a t ks) ∧ Sm30 ks ∧ Sm30 r
termination_by l => SizeOf.sizeOf l
theorem sm_nil : Sm30 [] := by rw [Sm30]; trivial
theorem sm_cons {x : Nd} {r : List Nd} : Sm30 (x :: r) ↔ Sm1 x ∧ Sm30 x.kids ∧ Sm30 r := by cases x; rw [Sm30]; rfl
theorem sm_iff {l : List Nd} : Sm30 l ↔ ∀ x ∈ l, Sm1 x ∧ Sm30 x.kids := by
  induction l with
  | nil => simp [sm_nil]
  | cons x r ih => rw [sm_cons, ih]; simp; exact ⟨fun h => ⟨⟨h.1, h.2.1⟩, h.2.2⟩, fun h => ⟨h.1.1, h.1.2, h.2⟩⟩
theorem cut_sm (l : List Nd) : ∀ m, Sm30 (M3.cut l m).1 := by
  induction l using Nd.ind with
  | h0 => intro m; rw [M3.cut_nil]; exact sm_nil
  | h1 k n ats t ks r ih1 ih2 =>
    intro m
    cases m with
    | zero => rw [M3.cut_zero]; exact sm_nil
    | succ m =>
      rw [M3.cut_cons]
      refine sm_cons.2 ⟨⟨few_size _, few_size _, fun a ha => ?_⟩, ih1 _, ih2 _⟩
      obtain ⟨b, _, rfl⟩ := List.mem_map.1 ha
      exact ⟨few_size _, few_size _⟩
theorem few_sm (l : List Nd) : Sm30 (fewN l) := cut_sm l 40

theorem good_len (l : List Nd) : (M3.goodN l).length = l.length := by rw [M3.goodN_map, List.length_map]
theorem good_weight (l : List Nd) : M3.weight (M3.goodN l) ≤ M3.weight l := by
  induction l using Nd.ind with
  | h0 => rw [M3.goodN_nil]; exact Nat.le_refl _
  | h1 k n ats t ks r ih1 ih2 =>
    rw [M3.goodN_cons, M3.weight_cons, M3.weight_cons, M3.good1_mk]
    have h1 := M3.goodA_len ats
    have h2 := weight_merge (M3.goodN ks)
    show _ ≤ 1 + ats.length + M3.weight ks + M3.weight r
    split
    · show 1 + (M3.goodA ats).length + M3.weight (M3.merge (M3.goodN ks)) + _ ≤ _; omega
    · show 1 + 0 + M3.weight [] + _ ≤ _; rw [M3.weight_nil]; omega
theorem good_texts (l : List Nd) (h : Sm30 l) : ∀ x ∈ M3.goodN l, x.text.size ≤ 120 := by
  intro x hx
  rw [M3.goodN_map] at hx
  obtain ⟨y, hy, rfl⟩ := List.mem_map.1 hx
  have := (sm_iff.1 h y hy).1.2.1
  unfold M3.good1
  split
  · show (⟨#[]⟩ : ByteArray).size ≤ _; decide
  · show (M3.rightN y.text).size ≤ _; have := M3.rightN_size y.text; omega
theorem good_txt (l : List Nd) (h : Sm30 l) : txtN (M3.goodN l) ≤ l.length * 120 := by
  have := txtN_fit _ 120 (good_texts l h)
  rwa [good_len] at this

/-- A new attribute of two calls' answers, in whatever order. -/
def AttI (wr : World) (av a1 a2 : ByteArray) (f : Nat → Bool) (t : Nat → Value) (W : World) : Prop :=
  Below wr.heap.size wr W ∧ (f 19 = true → f 23 = false → Sl W (t 19) (u8s av.data.toList)) ∧ (f 23 = true → f 22 = true ∧ f 20 = true) ∧
    (f 22 = true → ∃ ga, t 22 = .pointer (some ⟨ga, 0, none⟩) ∧ wr.heap.size ≤ ga ∧ Box W ga 44 (bif f 23 then [.string a1, .string a2] else [.string ⟨#[]⟩, .string ⟨#[]⟩]))
theorem AttI.start (wr : World) (av a1 a2 : ByteArray) (t : Nat → Value) {f : Nat → Bool} (h1 : f 19 = false) (h2 : f 22 = false) (h3 : f 23 = false) : AttI wr av a1 a2 f t wr.drew :=
  ⟨(Below.refl _ _).drew, (fun h => by rw [h1] at h; cases h), (fun h => by rw [h3] at h; cases h), (fun h => by rw [h2] at h; cases h)⟩
theorem AttI.next {wr W W' : World} {av a1 a2 : ByteArray} {f : Nat → Bool} {t : Nat → Value} (h : AttI wr av a1 a2 f t W) (hb : Below W.heap.size W W') : AttI wr av a1 a2 f t W' := by
  obtain ⟨h1, h2, h3, h4⟩ := h
  refine ⟨h1.trans (hb.mono h1.size), fun hf hg => (h2 hf hg).below hb, h3, fun hf => ?_⟩
  obtain ⟨ga, e, hg, hbx⟩ := h4 hf
  exact ⟨ga, e, hg, hbx.below hb hbx.lt⟩
theorem AttI.conv {wr W : World} {av a1 a2 : ByteArray} {f : Nat → Bool} {t : Nat → Value} {x : Value} (h : AttI wr av a1 a2 f t W) (hs : Sl W x (u8s av.data.toList)) : AttI wr av a1 a2 (updF f 19) (updT t 19 x) W :=
  ⟨h.1, fun _ _ => by rw [updT_same]; exact hs, h.2.2.1, h.2.2.2⟩
theorem AttI.right {wr W : World} {av a1 a2 : ByteArray} {f : Nat → Bool} {t : Nat → Value} {x : Value} (h : AttI wr av a1 a2 f t W) : AttI wr av a1 a2 (updF f 20) (updT t 20 x) W :=
  ⟨h.1, h.2.1, fun hf => ⟨(h.2.2.1 hf).1, updF_same _ _⟩, h.2.2.2⟩
theorem AttI.made {wr W : World} {av a1 a2 : ByteArray} {f : Nat → Bool} {t : Nat → Value} (h : AttI wr av a1 a2 f t W) (hf : f 22 = false) :
    AttI wr av a1 a2 (updF f 22) (updT t 22 (.pointer (some ⟨W.heap.size, 0, none⟩))) (W.alloc (.cells #[.string ⟨#[]⟩, .string ⟨#[]⟩] 44)) := by
  have h23 : f 23 = false := by
    cases h2 : f 23
    · rfl
    · rw [(h.2.2.1 h2).1] at hf; cases hf
  have hb : Below W.heap.size W (W.alloc (.cells #[.string ⟨#[]⟩, .string ⟨#[]⟩] 44)) := (Below.refl _ _).alloc (Nat.le_refl _) _
  have hn := h.next hb
  refine ⟨hn.1, hn.2.1, fun h => ⟨updF_same _ _, (hn.2.2.1 h).2⟩, fun _ => ⟨W.heap.size, rfl, h.1.size, ?_⟩⟩
  rw [updF_ne f (by decide), h23]
  exact Box.new W 44 [.string ⟨#[]⟩, .string ⟨#[]⟩]
theorem AttI.put {wr W : World} {av a1 a2 : ByteArray} {f : Nat → Bool} {t : Nat → Value} {ga : Nat} {v : Value} (h : AttI wr av a1 a2 f t W) (hf : f 22 = true) (hf2 : f 20 = true) (ht : t 22 = .pointer (some ⟨ga, 0, none⟩)) (hg : wr.heap.size ≤ ga) (hbx : Box W ga 44 [.string ⟨#[]⟩, .string ⟨#[]⟩]) :
    AttI wr av a1 a2 (updF f 23) (updT t 23 v) ((W.setCell ⟨ga, 0, none⟩ (.string a1)).setCell ⟨ga, 1, none⟩ (.string a2)) := by
  refine ⟨(h.1.setCell (p := ⟨ga, 0, none⟩) hg _).setCell (p := ⟨ga, 1, none⟩) hg _, (fun _ hf23 => by rw [updF_same] at hf23; cases hf23), fun _ => ⟨by rw [updF_ne f (by decide)]; exact hf, by rw [updF_ne f (by decide)]; exact hf2⟩, fun _ => ⟨ga, by rw [updT_ne t v (by decide)]; exact ht, hg, ?_⟩⟩
  rw [updF_same]
  exact (hbx.set 0 (.string a1)).set 1 (.string a2)
theorem cell_alloc_swap {w : World} {o o' : Obj} {b c : Nat} {v : Value} (h : (w.alloc o).cell? ⟨b, c, none⟩ = some v) (hb : b < w.heap.size) : (w.alloc o').cell? ⟨b, c, none⟩ = some v := by
  have h1 := ((Below.refl w.heap.size w).alloc (Nat.le_refl _) o).cell (p := ⟨b, c, none⟩) hb
  have h2 := ((Below.refl w.heap.size w).alloc (Nat.le_refl _) o').cell (p := ⟨b, c, none⟩) hb
  rw [h2, ← h1]; exact h
theorem cell_of_below {B : Nat} {w w' : World} (hb : Below B w w') {b o : Nat} {v : Value} (h : w.cell? ⟨b, o, none⟩ = some v) (hlt : b < B) : w'.cell? ⟨b, o, none⟩ = some v := (hb.cell (p := ⟨b, o, none⟩) hlt).trans h
set_option maxHeartbeats 8000000 in
set_option maxRecDepth 100000 in
theorem ref03good (wt : Nat) : ∀ (S : Nat → Prop) (v : Value) (l : List Nd) (w : World), M3.weight l < wt → M3.weight l ≤ 1000000 → Sm30 l → (∀ b, S b → b < w.heap.size) → RepN S w v l →
    Calls Try.prog 46 #[v] w (FreshPost (M3.good l) w) := by
  induction wt with
  | zero => intro S v l w h; omega
  | succ wt ih =>
  intro S v l w hwt hw6 hsm hS hr
  have hll := M3.length_le_weight l
  obtain ⟨a, cap, rfl⟩ := hr.slice
  obtain ⟨_, hlc, hcm⟩ := hr.len
  replace ih := Lib.hid ih
  replace hsm := Lib.hid hsm
  go_enter Try.func46, Try.ntmps46
  go_wp2_with fail
  go_loopw [3, 4, 5, 6, 7, 8, 9] (fun u3 u4 _ _ _ _ _ wr => ∃ i : Nat, i ≤ l.length ∧ u4 = .int .i64 (i : Int) ∧ Fresh wr w.heap.size u3 (M3.goodN (l.take i)) ∧ Below w.heap.size w wr) (fun _ u4 _ _ _ _ _ _ => l.length - (intOf u4).toNat)
  case atStart => exact ⟨0, by omega, rfl, by rw [List.take_zero, M3.goodN_nil]; exact Fresh.nil _ _, Below.refl _ _⟩
  case round =>
    obtain ⟨i, hi, rfl, hf, hb⟩ := hrel
    have hz := hb.size
    by_cases hlt : i < l.length
    · obtain ⟨b, off, va, vk, rfl, hSb, c0, c1, c2, c3, c4, hrv⟩ := (hr.below hS hb).at_ i hlt
      have hbl := hS b hSb
      obtain ⟨hs1, hs2⟩ := sm_iff.1 hsm.out _ (List.getElem_mem hlt)
      have hwk := weight_mem (List.getElem_mem hlt)
      have hwx := weight_le (List.getElem_mem hlt)
      have hgt : M3.goodN (l.take (i + 1)) = M3.goodN (l.take i) ++ [M3.good1 l[i]] := by rw [List.take_succ_eq_append_getElem hlt, M3.goodN_map, M3.goodN_map, List.map_append]; rfl
      have hAl : (M3.goodN (l.take i)).length ≤ 1000000 := by rw [good_len]; have := List.length_take_le i l; omega
      generalize l[i] = x at *
      replace hgt := Lib.hid hgt
      generalize hA : M3.goodN (l.take i) = A at *
      replace hA := Lib.hid hA
      obtain ⟨a1, e1, rfl⟩ := hrv.at_.slice
      obtain ⟨a2, e2, rfl⟩ := hrv.kids.slice
      have hI0 : (0 : Int) ≤ (i : Int) := by omega
      have hI1 : (i : Int) < (l.length : Int) := by omega
      obtain ⟨wo, rfl⟩ : ∃ wo : World, wo = wr := ⟨_, rfl⟩
      cases x with | mk kd n ats t ks =>
      simp only [Nd.kind, Nd.name, Nd.text, Nd.attrs, Nd.kids] at *
      have hat0 : Row S wo 2 (.slice a1 ats.length e1) ats.length (cellsA ats) := hrv.at_
      have hkd0 : RepN S wo (.slice a2 ks.length e2) ks := hrv.kids
      replace hkd0 := Lib.hid hkd0
      clear hrv
      obtain ⟨zs, F, hownA, hocA, hspA⟩ := hf
      replace hocA := Lib.hid hocA
      replace hspA := Lib.hid hspA
      have hg1 := M3.good1_mk kd n ats t ks
      have hts : t.size ≤ 30 := hs1.2.1
      have hns : n.size ≤ 30 := hs1.1
      have has : ∀ a ∈ ats, a.name.size ≤ 30 ∧ a.value.size ≤ 30 := hs1.2.2
      replace has := Lib.hid has
      have hblo : b < wo.heap.size := by omega
      by_cases hk1 : M3.kindN kd = 1
      · rw [if_pos hk1] at hg1
        have hkq : Hid ((decide (kd < 1) || decide (3 < kd)) = true ∨ kd = 1) := by
          show _ ∨ _
          unfold M3.kindN at hk1
          by_cases h : kd < 1 ∨ 3 < kd
          · left; simpa using h
          · right; rw [if_neg h] at hk1; exact hk1
        go_upto_region 6 with (fail)
        go_cut [29] from 10 to 110 (fun s29 wx => s29 = .bool (decide (kd < 1) || decide (3 < kd)) ∧ wx = wo.alloc (.cells #[.int .i64 kd, .string ⟨#[]⟩, .slice none 0 0, .string ⟨#[]⟩, .slice none 0 0] 28))
        case first =>
          by_cases h1 : kd < 1
          · go_wp2_with fail
            go_meet
            case rel => exact ⟨by rw [show decide (kd < 1) = true from decide_eq_true (by omega)]; rfl, rfl⟩
          · go_wp2_with fail
            go_meet
            case rel => exact ⟨by rw [show decide (kd < 1) = false from decide_eq_false (by omega)]; rfl, rfl⟩
        case rest =>
          obtain ⟨rfl, rfl⟩ := hcut
          go_upto_if 29 with (fail)
          go_cut [] from 10 to 110 (fun wx => wx = wo.alloc (.cells #[.int .i64 1, .string ⟨#[]⟩, .slice none 0 0, .string ⟨#[]⟩, .slice none 0 0] 28))
          case first =>
            generalize hq : (decide (kd < 1) || decide (3 < kd)) = q at *
            cases q
            · obtain rfl : kd = 1 := by rcases hkq.out with h | h; cases h; exact h
              go_wp2_with fail
              go_meet
              case rel => rfl
            · go_wp2_with fail
              go_meet
              case rel => rfl
          case rest =>
            have hbx1 := Box.new wo 28 [.int .i64 1, .string ⟨#[]⟩, .slice none 0 0, .string ⟨#[]⟩, .slice none 0 0]
            have hbo1 : Below wo.heap.size wo (wo.alloc (.cells #[.int .i64 1, .string ⟨#[]⟩, .slice none 0 0, .string ⟨#[]⟩, .slice none 0 0] 28)) := (Below.refl _ _).alloc (Nat.le_refl _) _
            have hso : (wo.alloc (.cells #[.int .i64 1, .string ⟨#[]⟩, .slice none 0 0, .string ⟨#[]⟩, .slice none 0 0] 28)).heap.size = wo.heap.size + 1 := by simp
            change Box (wo.alloc (.cells #[.int .i64 1, .string ⟨#[]⟩, .slice none 0 0, .string ⟨#[]⟩, .slice none 0 0] 28)) _ _ _ at hbx1
            rw [← hcut] at hbx1 hbo1 hso
            clear hcut
            have r1 := (hbo1.cell (p := ⟨b, off + i * 5 + 1, none⟩) hblo).trans c1
            have q0 := hbx1.cell (i := 0) rfl
            have hWd := Lib.hid (ref03Word n wc (by omega))
            have hwn := M3.wordN_size n 30 hns (by omega)
            generalize M3.wordN n = nm at *
            replace hso := Lib.hid hso
            go_wp2_with fail
            refine hWd.out.mono ?_
            rintro e w2 ⟨rfl, hb2⟩
            have hz2 := hb2.size
            have hbo2 : Below wo.heap.size wo w2 := hbo1.trans (hb2.mono (by have := hso.out; omega))
            have hbx2 := hbx1.below hb2 hbx1.lt
            have d1 := hbx2.cell (i := 1) rfl
            have f1 := hbx2.free 1
            clear hWd hbx1 hbo1 hb2 q0 r1
            go_wp2_with fail
            have hbx3 := hbx2.set 1 (.string nm)
            have hbo3 : Below wo.heap.size wo (w2.setCell ⟨wo.heap.size, 1, none⟩ (.string nm)) := hbo2.setCell (p := ⟨wo.heap.size, 1, none⟩) (Nat.le_refl _) _
            simp only [List.set_cons_succ, List.set_cons_zero] at hbx3
            obtain ⟨W3, hW3⟩ : ∃ W3, w2.setCell ⟨wo.heap.size, 1, none⟩ (.string nm) = W3 := ⟨_, rfl⟩
            rw [hW3] at hbx3 hbo3 ⊢
            clear hW3 hbx2 hbo2 d1 f1
            go_loopw [6, 7, 8, 9] (fun u6 _ _ _ wr => ∃ (k : Nat) (acc : List Att) (va : Value), k ≤ ats.length ∧ u6 = .int .i64 (k : Int) ∧ Box wr wo.heap.size 28 [.int .i64 1, .string nm, va, .string ⟨#[]⟩, .slice none 0 0] ∧ wr.ownsRow (wo.heap.size + 1) 44 2 va acc.length (cellsA acc) ∧ Hid (acc = M3.goodA (ats.take k)) ∧ Below wo.heap.size wo wr) (fun u6 _ _ _ _ => ats.length - (intOf u6).toNat)
            case atStart => exact ⟨0, [], _, by omega, rfl, hbx3, World.ownsRow_nil _ _ _ _, rfl, hbo3⟩
            case round =>
              obtain ⟨k, acc, va, hk, rfl, hbx, hown, hacc, hbo⟩ := hrel
              have hz3 := hbo.size
              have hgl := hbx.lt
              have r2 := (hbo.cell (p := ⟨b, off + i * 5 + 2, none⟩) hblo).trans c2
              clear hbx3 hbo3
              by_cases hkl : k < ats.length
              · obtain ⟨ab, aoff, rfl, hSab, p0, p1⟩ := (hat0.below (fun c hc => by have := hS c hc; omega) hbo).atA k hkl
                have habl := hS ab hSab
                obtain ⟨hsa, hsv⟩ := has.out _ (List.getElem_mem hkl)
                have htk : M3.goodA (ats.take (k + 1)) = M3.addA (M3.goodA (ats.take k)) ats[k] := by rw [List.take_succ_eq_append_getElem hkl, M3.goodA_snoc]
                have hacl : acc.length ≤ k := by rw [hacc.out]; have := M3.goodA_len (ats.take k); have := List.length_take_le k ats; omega
                have hadd : M3.addA acc ats[k] = if (M3.valueOf (M3.attrN ats[k].name) acc).isSome then acc else acc ++ [⟨M3.attrN ats[k].name, M3.rightN ats[k].value⟩] := rfl
                rw [← hacc.out, hadd] at htk
                clear hadd
                have hAt := Lib.hid (fun W => ref03Attribute ats[k].name W (by omega))
                generalize ats[k].name = an at *
                generalize ats[k].value = av at *
                have hK0 : (0 : Int) ≤ (k : Int) := by omega
                have hK1 : (k : Int) < (ats.length : Int) := by omega
                replace htk := Lib.hid htk
                go_upto_region 15 with (fail)
                refine wp_region_known (n := 24) ([some (.slice (some ⟨b, off, none⟩) l.length cap), some (.int .i64 (i : Int)), some (.pointer (some ⟨b, off + i * 5, none⟩)), some (.pointer (some ⟨b, off + i * 5 + 2, none⟩)), some (.slice (some ⟨ab, aoff, none⟩) ats.length e1), some (.int .i64 (k : Int)), some (.pointer (some ⟨ab, aoff + k * 2, none⟩)), some (.pointer (some ⟨ab, aoff + k * 2, none⟩)), some (.string an), some (.string (M3.attrN an)), some (.slice (some ⟨b, off, none⟩) l.length cap), some (.int .i64 (i : Int)), some (.pointer (some ⟨b, off + i * 5, none⟩)), some (.pointer (some ⟨b, off + i * 5 + 2, none⟩)), some (.slice (some ⟨ab, aoff, none⟩) ats.length e1), some (.int .i64 (k : Int)), some (.pointer (some ⟨ab, aoff + k * 2, none⟩)), some (.pointer (some ⟨ab, aoff + k * 2 + 1, none⟩)), some (.string av), none, some (.string ⟨(M1.right av.data.toList).toArray⟩), some (.agg #[.string (M3.attrN an), .string ⟨(M1.right av.data.toList).toArray⟩]), none, none] : List (Option Value)) (fun t => ⟨#[Value.slice (some { block := b, off := off }) l.length cap, undef, Value.slice none 0 0, u3, Value.int IntKind.i64 ↑i, Value.pointer (some { block := wo.heap.size, off := 0 }), Value.int IntKind.i64 ↑k, t 22, u8, u9, u10, u11, u12, u13, u14, u15, u16, u17, u18, u19, u20, u21, u22, u23, u24, u25, u26, u27, u28, u29, u30, Value.pointer (some { block := wo.heap.size, off := 0 }), Value.int IntKind.i64 1, Value.bool false, u34, u35, u36, u37, u38, u39, u40, u41, u42, u43, u44, u45, Value.slice (some { block := b, off := off }) l.length cap, Value.int IntKind.i64 ↑i, Value.pointer (some { block := b, off := off + i * 5 }), Value.pointer (some { block := b, off := off + i * 5 + 1 }), Value.string n, Value.string nm, Value.pointer (some { block := wo.heap.size, off := 1 }), Value.int IntKind.i64 ↑k, Value.slice (some { block := b, off := off }) l.length cap, Value.int IntKind.i64 ↑i, Value.pointer (some { block := b, off := off + i * 5 }), Value.pointer (some { block := b, off := off + i * 5 + 2 }), Value.slice (some { block := ab, off := aoff }) ats.length e1, Value.int IntKind.i64 ↑ats.length, Value.bool true, u61, u62, t 0, t 1, t 2, t 3, t 4, t 5, t 6, t 7, t 8, t 9, t 10, t 11, t 12, t 13, t 14, t 15, t 16, t 17, t 18, t 19, t 20, t 21, u85, u86, u87, u88, u89, u90, u91, u92, u93, u94, u95, u96, u97, u98, u99, u100, u101, u102, u103, u104, u105, u106, u107, u108, u109, u110, undef, undef], []⟩) (fun f t W => AttI wr av (M3.attrN an) ⟨(M1.right av.data.toList).toArray⟩ f t W) (fun j => match j with | 0 => u63 | 1 => u64 | 2 => u65 | 3 => u66 | 4 => u67 | 5 => u68 | 6 => u69 | 7 => u70 | 8 => u71 | 9 => u72 | 10 => u73 | 11 => u74 | 12 => u75 | 13 => u76 | 14 => u77 | 15 => u78 | 16 => u79 | 17 => u80 | 18 => u81 | 19 => u82 | 20 => u83 | 21 => u84 | 22 => u7 | _ => undef) (by kernel_rfl) (by rfl) (by rfl) (by kernel_rfl) rfl ?i0 ?step ?fin
                case i0 =>
                  exact AttI.start _ _ _ _ _ (by simp) (by simp) (by simp)
                case step =>
                  intro i hi f t W hfi hwt hk hI
                  have s0 := cell_of_below hI.1 r2 (by omega)
                  have s1 := cell_of_below hI.1 p0 (by omega)
                  have s2 := cell_of_below hI.1 p1 (by omega)
                  obtain rfl | rfl | rfl | rfl | rfl | rfl | rfl | rfl | rfl | rfl | rfl | rfl | rfl | rfl | rfl | rfl | rfl | rfl | rfl | rfl | rfl | rfl | rfl | rfl : i = 0 ∨ i = 1 ∨ i = 2 ∨ i = 3 ∨ i = 4 ∨ i = 5 ∨ i = 6 ∨ i = 7 ∨ i = 8 ∨ i = 9 ∨ i = 10 ∨ i = 11 ∨ i = 12 ∨ i = 13 ∨ i = 14 ∨ i = 15 ∨ i = 16 ∨ i = 17 ∨ i = 18 ∨ i = 19 ∨ i = 20 ∨ i = 21 ∨ i = 22 ∨ i = 23 := by omega
                  · -- operation 0
                    replace hI := Lib.hid hI
                    replace hk := Lib.hid hk
                    clear hwt
                    refine wpOp_step rfl (fun K hK => ?_)
                    go_simp
                    exact hK _ _ ⟨_, by simp [updT], hk.out.at_ rfl, hI.out⟩
                  · -- operation 1
                    replace hI := Lib.hid hI
                    replace hk := Lib.hid hk
                    clear hwt
                    refine wpOp_step rfl (fun K hK => ?_)
                    go_simp
                    exact hK _ _ ⟨_, by simp [updT], hk.out.at_ rfl, hI.out⟩
                  · -- operation 2
                    have e0 : t 0 = .slice (some ⟨b, off, none⟩) l.length cap := hk 0 _ (hwt 0 (by kernel_rfl)) rfl
                    have e1 : t 1 = .int .i64 (i : Int) := hk 1 _ (hwt 1 (by kernel_rfl)) rfl
                    replace hI := Lib.hid hI
                    replace hk := Lib.hid hk
                    clear hwt
                    refine wpOp_step rfl (fun K hK => ?_)
                    go_simp
                    exact hK _ _ ⟨_, by simp [updT, e0, e1], hk.out.at_ rfl, hI.out⟩
                  · -- operation 3
                    have e2 : t 2 = .pointer (some ⟨b, off + i * 5, none⟩) := hk 2 _ (hwt 2 (by kernel_rfl)) rfl
                    replace hI := Lib.hid hI
                    replace hk := Lib.hid hk
                    clear hwt
                    refine wpOp_step rfl (fun K hK => ?_)
                    go_simp
                    exact hK _ _ ⟨_, by simp [updT, e2], hk.out.at_ rfl, hI.out⟩
                  · -- operation 4
                    have e3 : t 3 = .pointer (some ⟨b, off + i * 5 + 2, none⟩) := hk 3 _ (hwt 3 (by kernel_rfl)) rfl
                    replace hI := Lib.hid hI
                    replace hk := Lib.hid hk
                    clear hwt
                    refine wpOp_step rfl (fun K hK => ?_)
                    go_simp
                    exact hK _ _ ⟨_, by simp [updT, e3], hk.out.at_ rfl, hI.out⟩
                  · -- operation 5
                    replace hI := Lib.hid hI
                    replace hk := Lib.hid hk
                    clear hwt
                    refine wpOp_step rfl (fun K hK => ?_)
                    go_simp
                    exact hK _ _ ⟨_, by simp [updT], hk.out.at_ rfl, hI.out⟩
                  · -- operation 6
                    have e4 : t 4 = .slice (some ⟨ab, aoff, none⟩) ats.length e1 := hk 4 _ (hwt 4 (by kernel_rfl)) rfl
                    have e5 : t 5 = .int .i64 (k : Int) := hk 5 _ (hwt 5 (by kernel_rfl)) rfl
                    replace hI := Lib.hid hI
                    replace hk := Lib.hid hk
                    clear hwt
                    refine wpOp_step rfl (fun K hK => ?_)
                    go_simp
                    exact hK _ _ ⟨_, by simp [updT, e4, e5], hk.out.at_ rfl, hI.out⟩
                  · -- operation 7
                    have e6 : t 6 = .pointer (some ⟨ab, aoff + k * 2, none⟩) := hk 6 _ (hwt 6 (by kernel_rfl)) rfl
                    replace hI := Lib.hid hI
                    replace hk := Lib.hid hk
                    clear hwt
                    refine wpOp_step rfl (fun K hK => ?_)
                    go_simp
                    exact hK _ _ ⟨_, by simp [updT, e6], hk.out.at_ rfl, hI.out⟩
                  · -- operation 8
                    have e7 : t 7 = .pointer (some ⟨ab, aoff + k * 2, none⟩) := hk 7 _ (hwt 7 (by kernel_rfl)) rfl
                    replace hI := Lib.hid hI
                    replace hk := Lib.hid hk
                    clear hwt
                    refine wpOp_step rfl (fun K hK => ?_)
                    go_simp
                    exact hK _ _ ⟨_, by simp [updT, e7], hk.out.at_ rfl, hI.out⟩
                  · -- operation 9
                    have e8 : t 8 = .string an := hk 8 _ (hwt 8 (by kernel_rfl)) rfl
                    replace hk := Lib.hid hk
                    replace hI := Lib.hid hI
                    clear hwt
                    refine wpOp_step rfl (fun K hK => ?_)
                    go_simp
                    refine (hAt.out _).mono ?_
                    rintro e w5 ⟨rfl, hb5⟩
                    exact hK _ _ ⟨_, by simp [updT, e8], hk.out.at_ rfl, hI.out.next hb5⟩
                  · -- operation 10
                    replace hI := Lib.hid hI
                    replace hk := Lib.hid hk
                    clear hwt
                    refine wpOp_step rfl (fun K hK => ?_)
                    go_simp
                    exact hK _ _ ⟨_, by simp [updT], hk.out.at_ rfl, hI.out⟩
                  · -- operation 11
                    replace hI := Lib.hid hI
                    replace hk := Lib.hid hk
                    clear hwt
                    refine wpOp_step rfl (fun K hK => ?_)
                    go_simp
                    exact hK _ _ ⟨_, by simp [updT], hk.out.at_ rfl, hI.out⟩
                  · -- operation 12
                    have e10 : t 10 = .slice (some ⟨b, off, none⟩) l.length cap := hk 10 _ (hwt 10 (by kernel_rfl)) rfl
                    have e11 : t 11 = .int .i64 (i : Int) := hk 11 _ (hwt 11 (by kernel_rfl)) rfl
                    replace hI := Lib.hid hI
                    replace hk := Lib.hid hk
                    clear hwt
                    refine wpOp_step rfl (fun K hK => ?_)
                    go_simp
                    exact hK _ _ ⟨_, by simp [updT, e10, e11], hk.out.at_ rfl, hI.out⟩
                  · -- operation 13
                    have e12 : t 12 = .pointer (some ⟨b, off + i * 5, none⟩) := hk 12 _ (hwt 12 (by kernel_rfl)) rfl
                    replace hI := Lib.hid hI
                    replace hk := Lib.hid hk
                    clear hwt
                    refine wpOp_step rfl (fun K hK => ?_)
                    go_simp
                    exact hK _ _ ⟨_, by simp [updT, e12], hk.out.at_ rfl, hI.out⟩
                  · -- operation 14
                    have e13 : t 13 = .pointer (some ⟨b, off + i * 5 + 2, none⟩) := hk 13 _ (hwt 13 (by kernel_rfl)) rfl
                    replace hI := Lib.hid hI
                    replace hk := Lib.hid hk
                    clear hwt
                    refine wpOp_step rfl (fun K hK => ?_)
                    go_simp
                    exact hK _ _ ⟨_, by simp [updT, e13], hk.out.at_ rfl, hI.out⟩
                  · -- operation 15
                    replace hI := Lib.hid hI
                    replace hk := Lib.hid hk
                    clear hwt
                    refine wpOp_step rfl (fun K hK => ?_)
                    go_simp
                    exact hK _ _ ⟨_, by simp [updT], hk.out.at_ rfl, hI.out⟩
                  · -- operation 16
                    have e14 : t 14 = .slice (some ⟨ab, aoff, none⟩) ats.length e1 := hk 14 _ (hwt 14 (by kernel_rfl)) rfl
                    have e15 : t 15 = .int .i64 (k : Int) := hk 15 _ (hwt 15 (by kernel_rfl)) rfl
                    replace hI := Lib.hid hI
                    replace hk := Lib.hid hk
                    clear hwt
                    refine wpOp_step rfl (fun K hK => ?_)
                    go_simp
                    exact hK _ _ ⟨_, by simp [updT, e14, e15], hk.out.at_ rfl, hI.out⟩
                  · -- operation 17
                    have e16 : t 16 = .pointer (some ⟨ab, aoff + k * 2, none⟩) := hk 16 _ (hwt 16 (by kernel_rfl)) rfl
                    replace hI := Lib.hid hI
                    replace hk := Lib.hid hk
                    clear hwt
                    refine wpOp_step rfl (fun K hK => ?_)
                    go_simp
                    exact hK _ _ ⟨_, by simp [updT, e16], hk.out.at_ rfl, hI.out⟩
                  · -- operation 18
                    have e17 : t 17 = .pointer (some ⟨ab, aoff + k * 2 + 1, none⟩) := hk 17 _ (hwt 17 (by kernel_rfl)) rfl
                    replace hI := Lib.hid hI
                    replace hk := Lib.hid hk
                    clear hwt
                    refine wpOp_step rfl (fun K hK => ?_)
                    go_simp
                    exact hK _ _ ⟨_, by simp [updT, e17], hk.out.at_ rfl, hI.out⟩
                  · -- operation 19
                    have e18 : t 18 = .string av := hk 18 _ (hwt 18 (by kernel_rfl)) rfl
                    replace hk := Lib.hid hk
                    replace hI := Lib.hid hI
                    clear hwt
                    obtain ⟨x1, w1, hc1, y1, b1⟩ := conv_bytes W av (by omega)
                    refine wpOp_step rfl (fun K hK => ?_)
                    go_simp
                    exact hK _ _ ⟨_, by simp [updT, e18], hk.out.free rfl, (hI.out.next b1).conv y1⟩
                  · -- operation 20
                    have hf23 : f 23 = false := by
                      cases h2 : f 23
                      · rfl
                      · rw [(hI.2.2.1 h2).2] at hfi; cases hfi
                    have hsl := hI.2.1 (hwt 19 (by kernel_rfl)) hf23
                    replace hf23 := Lib.hid hf23
                    have hR := Lib.hid (ref01Right (t 19) av.data.toList W hsl (by show av.size ≤ _; omega))
                    replace hk := Lib.hid hk
                    replace hI := Lib.hid hI
                    clear hwt
                    refine wpOp_step rfl (fun K hK => ?_)
                    go_simp
                    refine hR.out.mono ?_
                    rintro e w5 ⟨rfl, hb5⟩
                    exact hK _ _ ⟨_, by simp [updT], hk.out.at_ rfl, (hI.out.next hb5).right⟩
                  · -- operation 21
                    have e9 : t 9 = .string (M3.attrN an) := hk 9 _ (hwt 9 (by kernel_rfl)) rfl
                    have e20 : t 20 = .string ⟨(M1.right av.data.toList).toArray⟩ := hk 20 _ (hwt 20 (by kernel_rfl)) rfl
                    replace hI := Lib.hid hI
                    replace hk := Lib.hid hk
                    clear hwt
                    refine wpOp_step rfl (fun K hK => ?_)
                    go_simp
                    exact hK _ _ ⟨_, by simp [updT, e9, e20], hk.out.at_ rfl, hI.out⟩
                  · -- operation 22
                    replace hk := Lib.hid hk
                    replace hI := Lib.hid hI
                    clear hwt
                    refine wpOp_step rfl (fun K hK => ?_)
                    go_simp
                    exact hK _ _ ⟨_, by simp [updT], hk.out.free rfl, hI.out.made hfi⟩
                  · -- operation 23
                    have e21 : t 21 = .agg #[.string (M3.attrN an), .string ⟨(M1.right av.data.toList).toArray⟩] := hk 21 _ (hwt 21 (by kernel_rfl)) rfl
                    obtain ⟨ga, e22, hga, hbx⟩ := hI.2.2.2 (hwt 22 (by kernel_rfl))
                    rw [hfi] at hbx
                    change Box W ga _ [.string ⟨#[]⟩, .string ⟨#[]⟩] at hbx
                    have y0 := hbx.cell (i := 0) rfl
                    have y1 := hbx.cell (i := 1) rfl
                    have z0 := hbx.free 0
                    have z1 := hbx.free 1
                    have f22 := Lib.hid (hwt 22 (by kernel_rfl))
                    have f20 := Lib.hid (hwt 20 (by kernel_rfl))
                    replace hk := Lib.hid hk
                    replace hI := Lib.hid hI
                    clear hwt
                    refine wpOp_step rfl (fun K hK => ?_)
                    go_simp
                    exact hK _ _ ⟨undef, by simp [updT, e21, e22], hk.out.free rfl, hI.out.put f22.out f20.out e22 hga hbx⟩
                case fin =>
                  intro f t W hall hk hI
                  obtain ⟨ga, e22, hga, hba⟩ := hI.2.2.2 (hall 22 (by omega))
                  rw [hall 23 (by omega)] at hba
                  change Box W ga _ [.string (M3.attrN an), .string ⟨(M1.right av.data.toList).toArray⟩] at hba
                  have hB := hI.1
                  clear hk hI hall hAt
                  dsimp only
                  rw [e22]
                  have hrr : (⟨(M1.right av.data.toList).toArray⟩ : ByteArray) = M3.rightN av := rfl
                  rw [hrr] at hba
                  clear hrr p0 p1 r2 e22
                  generalize M3.attrN an = an2 at *
                  generalize M3.rightN av = av2 at *
                  have hbn := hbx.below hB hgl
                  have hownW := own_below hown hB
                  obtain ⟨a6, e6, rfl⟩ := own_slice hown
                  have n0 := hbn.cell (i := 0) rfl
                  have n1 := hbn.cell (i := 1) rfl
                  have n2 := hbn.cell (i := 2) rfl
                  have n3 := hbn.cell (i := 3) rfl
                  have n4 := hbn.cell (i := 4) rfl
                  have m0 := hba.cell (i := 0) rfl
                  have m1 := hba.cell (i := 1) rfl
                  have hrowW : Row (fun b => b < W.heap.size) W 2 (.slice a6 acc.length e6) acc.length (cellsA acc) := Row.own hownW (fun g hg => (hownW.lt g hg).2)
                  have hVl := Lib.hid (ref03Value (fun b => b < W.heap.size) (.mk 1 nm acc ⟨#[]⟩ []) (.slice a6 acc.length e6) (.slice none 0 0) an2 W (fun _ h => h) hrowW ⟨_, _, _, rfl⟩)
                  have hboW : Below wo.heap.size wo W := hbo.trans (hB.mono hz3)
                  replace hownW := Lib.hid hownW
                  replace hown := Lib.hid hown
                  clear hbx hrowW
                  obtain ⟨o, ho⟩ : ∃ o, M3.valueOf an2 acc = o := ⟨_, rfl⟩
                  change Hid (Calls Try.prog 77 #[Value.agg #[.int .i64 1, .string nm, .slice a6 acc.length e6, .string ⟨#[]⟩, .slice none 0 0], .string an2] W fun e w' => e = .returned (valAns (M3.valueOf an2 acc)) ∧ Below W.heap.size W w') at hVl
                  rw [ho] at hVl htk
                  clear ho
                  go_wp2_with fail
                  cases o with
                  | some sv =>
                    replace htk : Hid (M3.goodA (ats.take (k + 1)) = acc) := htk
                    change Hid (Calls Try.prog 77 #[Value.agg #[.int .i64 1, .string nm, .slice a6 acc.length e6, .string ⟨#[]⟩, .slice none 0 0], .string an2] W fun e w' => e = .returned (.tuple #[.string sv, .bool true]) ∧ Below W.heap.size W w') at hVl
                    refine hVl.out.mono ?_
                    rintro e w6 ⟨rfl, hb6⟩
                    have hbo6 : Below wo.heap.size wo w6 := hboW.trans (hb6.mono (by have := hB.size; omega))
                    have hbn6 := hbn.below hb6 hbn.lt
                    have hown6 := own_below hownW.out hb6
                    clear hVl hbn hba n0 n1 n2 n3 n4 m0 m1
                    go_wp2_with fail
                    go_roundw
                    case rel => exact ⟨k + 1, acc, _, by omega, by go_num, hbn6, hown6, by show _ = _; rw [htk.out], hbo6⟩
                    case measure => exact meas_nat hkl
                  | none =>
                    replace htk : Hid (M3.goodA (ats.take (k + 1)) = acc ++ [⟨an2, av2⟩]) := htk
                    change Hid (Calls Try.prog 77 #[Value.agg #[.int .i64 1, .string nm, .slice a6 acc.length e6, .string ⟨#[]⟩, .slice none 0 0], .string an2] W fun e w' => e = .returned (.tuple #[.string ⟨#[]⟩, .bool false]) ∧ Below W.heap.size W w') at hVl
                    refine hVl.out.mono ?_
                    rintro e w6 ⟨rfl, hb6⟩
                    have hbo6 : Below wo.heap.size wo w6 := hboW.trans (hb6.mono (by have := hB.size; omega))
                    have hbn6 := hbn.below hb6 hbn.lt
                    have hba6 := hba.below hb6 hba.lt
                    have hown6 := own_below hownW.out hb6
                    have hgl6 := hbn6.lt
                    clear hVl hbn hba n0 n1 n2 n3 n4 m0 m1
                    have n2 := hbn6.cell (i := 2) rfl
                    have m0 := hba6.cell (i := 0) rfl
                    have m1 := hba6.cell (i := 1) rfl
                    have hbo6z : wo.heap.size + 1 ≤ w6.heap.size := by omega
                    go_wp2_with (at_builtin; refine wpList_appK _ [.string an2, .string av2] 2 rfl _ _ 26 44 rfl (wo.heap.size + 1) Try.underlying26 infoA rfl (by omega) _ acc.length (cellsA acc) rfl hown6 _ rfl rfl rfl (by simp [Value.oneCell']) (by omega) (by omega) hbo6z ?_; intro g cp w7 hown7 hgrow7 hat7; have hbn7 := hbn6.keep (hgrow7.block _ hgl6 (fun e => by have := (hown6.lt _ e.symm).1; omega)); have k2 := hbn7.cell (i := 2) rfl; have kf2 := hbn7.free 2)
                    have hbo7 : Below wo.heap.size wo w7 := hbo6.grown hgrow7 (by omega) (fun k hk => by have := (hown6.lt k hk).1; omega)
                    have hbn8 := hbn7.set 2 (.slice (some ⟨g, 0, none⟩) (acc.length + 1) cp)
                    simp only [List.set_cons_succ, List.set_cons_zero] at hbn8
                    have hbo8 : Below wo.heap.size wo (w7.setCell ⟨wo.heap.size, 2, none⟩ (.slice (some ⟨g, 0, none⟩) (acc.length + 1) cp)) := hbo7.setCell (p := ⟨wo.heap.size, 2, none⟩) (Nat.le_refl _) _
                    have hown8 : (w7.setCell ⟨wo.heap.size, 2, none⟩ (.slice (some ⟨g, 0, none⟩) (acc.length + 1) cp)).ownsRow (wo.heap.size + 1) 44 2 (.slice (some ⟨g, 0, none⟩) (acc.length + 1) cp) (acc ++ ([⟨an2, av2⟩] : List Att)).length (cellsA (acc ++ ([⟨an2, av2⟩] : List Att))) := by
                      rw [cellsA_append, List.length_append]
                      exact own_keep hown7 (fun g' hg' => Below.heap_setCell _ _ _ _ (by have := (hown7.lt g' hg').1; simp; omega))
                    clear hown7 hgrow7 hat7 k2 kf2
                    go_roundw
                    case rel => exact ⟨k + 1, acc ++ [⟨an2, av2⟩], _, by omega, by go_num, hbn8, hown8, by show _ = _; rw [htk.out], hbo8⟩
                    case measure => exact meas_nat hkl
              · obtain rfl : k = ats.length := by omega
                rw [List.take_length] at hacc
                have hgg : M3.good1 (.mk kd n ats t ks) = .mk 1 nm acc ⟨#[]⟩ (M3.good ks) := by rw [hacc.out]; exact hg1
                rw [hgg] at hgt
                have hacl : acc.length ≤ ats.length := by rw [hacc.out]; exact M3.goodA_len ats
                have r4 := (hbo.cell (p := ⟨b, off + i * 5 + 4, none⟩) hblo).trans c4
                obtain ⟨a6, e6, rfl⟩ := own_slice hown
                have hkw : M3.weight ks < wt := by have h0 : M3.weight ks < M3.weight l := hwk; omega
                have hkd := Lib.hid (ih.out S (.slice a2 ks.length e2) ks wr hkw (by omega) hs2 (fun c hc => by have := hS c hc; omega) (hkd0.out.below (fun c hc => by have := hS c hc; omega) hbo))
                clear hg1 hgg hacc c0 c1 c2 c3 c4
                go_wp2_with fail
                refine hkd.out.mono ?_
                rintro e w6 ⟨vk6, rfl, ⟨zk, Fk, hownk, hock, hspk⟩, hb6⟩
                obtain ⟨a7, e7, rfl⟩ := own_slice hownk
                have hbo6 : Below wo.heap.size wo w6 := hbo.trans (hb6.mono hz3)
                have hbn6 := hbx.below hb6 hgl
                have hgl6 := hbn6.lt
                have n0 := hbn6.cell (i := 0) rfl
                have n1 := hbn6.cell (i := 1) rfl
                have n2 := hbn6.cell (i := 2) rfl
                have n3 := hbn6.cell (i := 3) rfl
                have n4 := hbn6.cell (i := 4) rfl
                have nf4 := hbn6.free 4
                have hown6 := own_below hown hb6
                have hbo7 : Below wo.heap.size wo (w6.setCell ⟨wo.heap.size, 4, none⟩ (.slice a7 (M3.good ks).length e7)) := hbo6.setCell (p := ⟨wo.heap.size, 4, none⟩) (Nat.le_refl _) _
                have hsz7 : (w6.setCell ⟨wo.heap.size, 4, none⟩ (.slice a7 (M3.good ks).length e7)).heap.size = w6.heap.size := by simp [World.setCell]
                have hfar7 : ∀ c, c ≠ wo.heap.size → (w6.setCell ⟨wo.heap.size, 4, none⟩ (.slice a7 (M3.good ks).length e7)).heap[c]? = w6.heap[c]? := fun c hc => Below.heap_setCell _ _ _ _ (by simpa using hc)
                have hownA7 := own_below hownA hbo7
                have hsz8 : w.heap.size ≤ (w6.setCell ⟨wo.heap.size, 4, none⟩ (.slice a7 (M3.good ks).length e7)).heap.size := by omega
                have hown7 := own_keep hown6 (w' := w6.setCell ⟨wo.heap.size, 4, none⟩ (.slice a7 (M3.good ks).length e7)) (fun g hg => hfar7 g (by have := (hown6.lt g hg).1; omega))
                have hownk7 := own_keep hownk (w' := w6.setCell ⟨wo.heap.size, 4, none⟩ (.slice a7 (M3.good ks).length e7)) (fun g hg => hfar7 g (by have := (hownk.lt g hg).1; omega))
                have hock7 := OwnC.keep (w' := w6.setCell ⟨wo.heap.size, 4, none⟩ (.slice a7 (M3.good ks).length e7)) _ _ _ (fun c hc => hfar7 c (by have := (hspk.2 c (by simp [hc])).1; omega)) hock
                have hspa := Span.own hown
                replace hsz7 := Lib.hid hsz7
                replace hown7 := Lib.hid hown7
                replace hownk7 := Lib.hid hownk7
                replace hock7 := Lib.hid hock7
                replace hfar7 := Lib.hid hfar7
                replace hown := Lib.hid hown
                replace hown6 := Lib.hid hown6
                replace hownk := Lib.hid hownk
                clear hkd hock
                go_wp2_with (at_builtin; refine wpList_appK _ [.int .i64 1, .string nm, .slice a6 acc.length e6, .string ⟨#[]⟩, .slice a7 (M3.good ks).length e7] 5 rfl _ _ 22 28 rfl w.heap.size Try.underlying22 infoN rfl (by omega) u3 A.length zs rfl hownA7 w6.heap.size hsz7.out (by rfl) rfl (five_one _ _ _ _ _ _ _ _ _) (by omega) (by omega) hsz8 ?_; intro g cp w5 hown5 hgrow5 hat5)
                have hb5 : Below w.heap.size w w5 := below_own (hb.trans (hbo7.mono hz)) hownA7 hgrow5 hsz8 (Nat.le_refl _)
                have hfr5 : Fresh w5 w.heap.size (.slice (some ⟨g, 0, none⟩) (A.length + 1) cp) (A ++ [.mk 1 nm acc ⟨#[]⟩ (M3.good ks)]) := by
                  refine Fresh.snoc (W := w6.setCell ⟨wo.heap.size, 4, none⟩ (.slice a7 (M3.good ks).length e7)) (mid := wo.heap.size) (F := F) (zs2 := zk) (F2 := Fk) rfl hown5 hgrow5 hat5 (OwnC.keep _ _ _ (fun c h => hbo7.block c (hspA.out.2 c (by simp [h])).2) hocA.out) hspA.out (own_base hown7.out (fun _ _ => Nat.zero_le _)) (own_base hownk7.out (fun _ _ => Nat.zero_le _)) hock7.out ?_ hz (by have := hsz7.out; omega)
                  have h1 := Span.append hspa hspk (by omega) hb6.size
                  exact h1.mono (by omega) (by have := hsz7.out; omega)
                clear hown5 hgrow5 hat5
                go_roundw
                case rel => exact ⟨i + 1, by omega, by go_num, by rw [hgt.out]; exact hfr5, hb5⟩
                case measure => exact meas_nat hlt
      · rw [if_neg hk1] at hg1
        have hkk : M3.kindN kd = kd := by
          unfold M3.kindN at hk1 ⊢
          split at hk1
          · exact absurd rfl hk1
          · rename_i h; rw [if_neg h]
        rw [hkk] at hg1 hk1
        have hk23 : kd = 2 ∨ kd = 3 := by
          have := M3.kindN_in kd
          rw [hkk] at this
          omega
        obtain ⟨x1, w1, hc1, s1, b1⟩ := conv_bytes (wo.alloc (.cells #[.int .i64 kd, .string ⟨#[]⟩, .slice none 0 0, .string ⟨#[]⟩, .slice none 0 0] 28)) t (by omega)
        have hR := Lib.hid (ref01Right x1 _ w1 s1 (by show t.size ≤ _; omega))
        have hkd1 : (kd != 1) = true := by simp [bne]; omega
        have hkd2 : ¬ (kd < 1) := by omega
        have hkd3 : ¬ (3 < kd) := by omega
        have hbx0 := Box.new wo 28 [.int .i64 kd, .string ⟨#[]⟩, .slice none 0 0, .string ⟨#[]⟩, .slice none 0 0]
        have hbo0 : Below wo.heap.size wo (wo.alloc (.cells #[.int .i64 kd, .string ⟨#[]⟩, .slice none 0 0, .string ⟨#[]⟩, .slice none 0 0] 28)) := (Below.refl _ _).alloc (Nat.le_refl _) _
        have hso : (wo.alloc (.cells #[.int .i64 kd, .string ⟨#[]⟩, .slice none 0 0, .string ⟨#[]⟩, .slice none 0 0] 28)).heap.size = wo.heap.size + 1 := by simp
        have hz1 := b1.size
        rw [hso] at hz1
        have hbo1 : Below wo.heap.size wo w1 := hbo0.trans (b1.mono (by omega))
        have hbx1 := (show Box (wo.alloc (.cells #[.int .i64 kd, .string ⟨#[]⟩, .slice none 0 0, .string ⟨#[]⟩, .slice none 0 0] 28)) _ _ _ from hbx0).below b1 (by omega)
        have hgx : M3.good1 (.mk kd n ats t ks) = .mk kd ⟨#[]⟩ [] ⟨(M1.right t.data.toList).toArray⟩ [] := hg1
        have hrl := M1.right_len t.data.toList
        have htl : t.data.toList.length ≤ 30 := hts
        rw [hgx] at hgt
        clear hg1 hgx hbo0 hbx0 b1
        replace hso := Lib.hid hso
        generalize M1.right t.data.toList = rt at *
        go_wp2_with fail
        refine hR.out.mono ?_
        rintro e w2 ⟨rfl, hb2⟩
        have hz2 := hb2.size
        have hbo2 : Below wo.heap.size wo w2 := hbo1.trans (hb2.mono (by omega))
        have hbx2 := hbx1.below hb2 (by omega)
        have d0 := hbx2.cell (i := 0) rfl
        have d1 := hbx2.cell (i := 1) rfl
        have d2 := hbx2.cell (i := 2) rfl
        have d3 := hbx2.cell (i := 3) rfl
        have d4 := hbx2.cell (i := 4) rfl
        have f3 := hbx2.free 3
        have hbo3 : Below wo.heap.size wo (w2.setCell ⟨wo.heap.size, 3, none⟩ (.string ⟨rt.toArray⟩)) := hbo2.setCell (p := ⟨wo.heap.size, 3, none⟩) (Nat.le_refl _) _
        have hsz3 : (w2.setCell ⟨wo.heap.size, 3, none⟩ (.string ⟨rt.toArray⟩)).heap.size = w2.heap.size := by simp [World.setCell]
        have hsz4 : w.heap.size ≤ (w2.setCell ⟨wo.heap.size, 3, none⟩ (.string ⟨rt.toArray⟩)).heap.size := by omega
        have hown3 := own_below hownA hbo3
        replace hsz3 := Lib.hid hsz3
        clear hR hbx1 s1 c0 c1 c2 c3 c4
        go_wp2_with (at_builtin; refine wpList_appK _ [.int .i64 kd, .string ⟨#[]⟩, .slice none 0 0, .string ⟨rt.toArray⟩, .slice none 0 0] 5 rfl _ _ 22 28 rfl w.heap.size Try.underlying22 infoN rfl (by omega) u3 A.length zs rfl hown3 w2.heap.size hsz3.out (by rfl) rfl (five_one _ _ _ _ _ _ _ _ _) (by omega) (by omega) hsz4 ?_; intro g cp w5 hown5 hgrow5 hat5)
        have hb5 : Below w.heap.size w w5 := below_own (hb.trans (hbo3.mono hz)) hown3 hgrow5 hsz4 (Nat.le_refl _)
        have hfr5 : Fresh w5 w.heap.size (.slice (some ⟨g, 0, none⟩) (A.length + 1) cp) (A ++ [.mk kd ⟨#[]⟩ [] ⟨rt.toArray⟩ []]) := by
          refine Fresh.snoc (W := w2.setCell ⟨wo.heap.size, 3, none⟩ (.string ⟨rt.toArray⟩)) (mid := wo.heap.size) (F := F) (zs2 := []) (F2 := []) rfl hown5 hgrow5 hat5 (OwnC.keep _ _ _ (fun b h => hbo3.block b (hspA.out.2 b (by simp [h])).2) hocA.out) hspA.out (World.ownsRow_nil _ _ _ _) (World.ownsRow_nil _ _ _ _) (OwnC.nil _) (Span.nil _ _) hz (by have := hsz3.out; omega)
        clear hown5 hgrow5 hat5
        go_roundw
        case rel => exact ⟨i + 1, by omega, by go_num, by rw [hgt.out]; exact hfr5, hb5⟩
        case measure => exact meas_nat hlt
    · obtain rfl : i = l.length := by omega
      rw [List.take_length] at hf
      have hlg := good_len l
      have htx := good_txt l hsm.out
      have hM := Lib.hid (ref03MergeF w.heap.size u3 _ wr hz hf (by omega) (by omega))
      obtain ⟨a3, c3, hu3⟩ : ∃ a c, u3 = .slice a (M3.goodN l).length c := by obtain ⟨_, _, h, _⟩ := hf; exact own_slice h
      subst hu3
      clear hf hlg htx
      go_wp2_with fail
      refine hM.out.mono ?_
      rintro e w1 ⟨v1, rfl, hfr1, hb1⟩
      have hbb : Below w.heap.size w w1 := hb.trans (hb1.mono hz)
      clear hM
      replace hfr1 := Lib.hid hfr1
      go_wp2_with fail
      go_ret
      exact ⟨v1, rfl, hfr1.out, hbb⟩
end Go.Proofs.Ytjelmpajphajfaa

/- The reference of layer 3: nodes that may be, made of any: Good. -/
namespace Go.Proofs.Ytjelmpajphajfaa
open Go.RowKit

theorem fitN_all {l : List Nd} : FitN l ↔ ∀ x ∈ l, Fit1 x ∧ FitN x.kids := by
  induction l with
  | nil => simp [fitN_nil]
  | cons x r ih => rw [fitN_cons, ih]; simp; exact ⟨fun h => ⟨⟨h.1, h.2.1⟩, h.2.2⟩, fun h => ⟨h.1.1, h.1.2, h.2⟩⟩
theorem fit_merged {l : List Nd} (h : FitN l) (ht : txtN l ≤ 268435456) : FitN (M3.merge l) := by
  have h1 := M3.merge_all (P := fun x => (x.name.size ≤ 268435456 ∧ (∀ a ∈ x.attrs, a.name.size ≤ 268435456 ∧ a.value.size ≤ 268435456) ∧ 1 + x.attrs.length + M3.weight x.kids ≤ 1000000) ∧ FitN x.kids)
    (fun x y hx _ _ _ => by rw [M3.withText_name, M3.withText_attrs, M3.withText_kids]; exact hx) l (fun x hx => by have := fitN_all.1 h x hx; exact ⟨⟨this.1.1, this.1.2.2.1, this.1.2.2.2⟩, this.2⟩)
  have h2 := txtN_merge l
  refine fitN_all.2 (fun x hx => ?_)
  obtain ⟨⟨q1, q2, q3⟩, q4⟩ := h1 x hx
  have := txtN_mem hx
  exact ⟨⟨q1, by omega, q2, q3⟩, q4⟩
theorem fit_goodN (l : List Nd) : Sm30 l → M3.weight l ≤ 1000 → FitN (M3.goodN l) := by
  induction l using Nd.ind with
  | h0 => intro _ _; rw [M3.goodN_nil]; exact fitN_nil
  | h1 k n ats t ks r ih1 ih2 =>
    intro hs hw
    obtain ⟨s1, s2, s3⟩ := sm_cons.1 hs
    rw [M3.weight_cons] at hw
    have hw : 1 + ats.length + M3.weight ks + M3.weight r ≤ 1000 := hw
    rw [M3.goodN_cons, M3.good1_mk]
    refine fitN_cons.2 ?_
    by_cases h : M3.kindN k = 1
    · rw [if_pos h]
      have h1 := M3.goodA_len ats
      have h2 := weight_merge (M3.goodN ks)
      have h3 := good_weight ks
      have h4 := good_txt ks s2
      have h5 := M3.length_le_weight ks
      have h6 := M3.wordN_size n 30 s1.1 (by omega)
      refine ⟨⟨by show (M3.wordN n).size ≤ _; omega, by show (⟨#[]⟩ : ByteArray).size ≤ _; decide, ?_, by show 1 + (M3.goodA ats).length + M3.weight (M3.merge (M3.goodN ks)) ≤ _; omega⟩, fit_merged (ih1 s2 (by omega)) (by omega), ih2 s3 (by omega)⟩
      refine M3.goodA_all ats (fun a ha => ?_)
      have h7 := s1.2.2 a ha
      have h8 := M3.attrN_size a.name 30 h7.1 (by omega)
      have h9 := M3.rightN_size a.value
      exact ⟨by show (M3.attrN a.name).size ≤ _; omega, by show (M3.rightN a.value).size ≤ _; omega⟩
    · rw [if_neg h]
      have h6 := M3.rightN_size t
      have h7 : t.size ≤ 30 := s1.2.1
      refine ⟨⟨by show (⟨#[]⟩ : ByteArray).size ≤ _; decide, by show (M3.rightN t).size ≤ _; omega, fun a ha => (nomatch (show a ∈ ([] : List Att) from ha)), by show 1 + 0 + M3.weight [] ≤ _; rw [M3.weight_nil]; omega⟩, fitN_nil, ih2 s3 (by omega)⟩
theorem fit_szN (l : List Nd) (h : FitN l) : SzN l := by
  induction l using Nd.ind with
  | h0 => rw [SzN]; trivial
  | h1 k n ats t ks r ih1 ih2 =>
    obtain ⟨h1, h2, h3⟩ := fitN_cons.1 h
    refine szN_cons.2 ⟨⟨by have := h1.1; omega, by have := h1.2.1; omega, fun a ha => by have := h1.2.2.1 a ha; omega⟩, ih1 h2, ih2 h3⟩
/-- Nodes that may be, of any: what 'Good' tells. -/
def gdN (l : List Nd) : List Nd := M3.good (fewN l)
theorem gd_weight (l : List Nd) : M3.weight (gdN l) ≤ 240 :=
  Nat.le_trans (weight_merge _) (Nat.le_trans (good_weight _) (fewN_weight l))
theorem gd_fit (l : List Nd) : FitN (gdN l) := by
  have h1 := fewN_weight l
  have h2 := good_txt (fewN l) (few_sm l)
  have h3 := M3.length_le_weight (fewN l)
  exact fit_merged (fit_goodN _ (few_sm l) (by omega)) (by omega)
theorem gd_may (l : List Nd) : M3.mayE false (gdN l) = 0 := M3.good_may _

set_option maxHeartbeats 2000000 in
theorem ref03Good (S : Nat → Prop) (v : Value) (l : List Nd) (w : World) (hS : ∀ b, S b → b < w.heap.size) (hr : RepN S w v l) (hsz : SzN l) :
    Calls Try.prog 16 #[v] w (FreshPost (gdN l) w) := by
  have hF := Lib.hid (ref03Few S v l w hS hr hsz)
  obtain ⟨a, cap, rfl⟩ := hr.slice
  go_enter Try.func16, Try.ntmps16
  go_wp2_with fail
  refine hF.out.mono ?_
  rintro e w1 ⟨v1, rfl, hm1, hb1⟩
  have hG := Lib.hid (ref03good (M3.weight (fewN l) + 1) _ v1 (fewN l) w1 (by omega) (by have := fewN_weight l; omega) (few_sm l) (fun b h => h.2) hm1.rep)
  obtain ⟨a1, c1, rfl⟩ := hm1.rep.slice
  clear hm1 hF
  go_wp2_with fail
  refine hG.out.mono ?_
  rintro e w2 ⟨v2, rfl, hf2, hb2⟩
  have hb := bt hb1 hb2
  have hf3 := Lib.hid (hf2.base hb1.size)
  obtain ⟨a2, c2, rfl⟩ := hf2.rep.slice
  clear hf2
  go_wp2_with fail
  go_ret
  exact ⟨_, rfl, hf3.out, hb⟩
end Go.Proofs.Ytjelmpajphajfaa

/- The statements of layer 3: a node of which something is turned. -/
namespace Go.Proofs.Ytjelmpajphajfaa
open Go.RowKit

/-- Nothing but blocks of F has changed of what there was. -/
structure Touch (F : List Nat) (w w' : World) : Prop where
  os : w'.os = w.os
  tape : w'.tape = w.tape
  output : w'.output = w.output
  size : w.heap.size ≤ w'.heap.size
  block : ∀ b, b < w.heap.size → b ∉ F → w'.heap[b]? = w.heap[b]?
theorem Touch.of_below {F : List Nat} {w w' : World} (h : Below w.heap.size w w') : Touch F w w' := ⟨h.os, h.tape, h.output, h.size, fun b hb _ => h.block b hb⟩
theorem Touch.trans {F : List Nat} {w w1 w2 : World} (h : Touch F w w1) (k : Touch F w1 w2) : Touch F w w2 :=
  ⟨k.os.trans h.os, k.tape.trans h.tape, k.output.trans h.output, Nat.le_trans h.size k.size, fun b hb hn => (k.block b (Nat.lt_of_lt_of_le hb h.size) hn).trans (h.block b hb hn)⟩
theorem Touch.grown {F : List Nat} {w w' : World} {row : Option Nat} (h : w.grownBy w' row) (hr : ∀ g, row = some g → g ∈ F) : Touch F w w' :=
  ⟨h.os, h.tape, h.output, h.size, fun b hb hn => h.block b hb (fun e => hn (hr b e.symm))⟩
theorem Touch.mono {F G : List Nat} {w w1 : World} (h : Touch F w w1) (hs : ∀ b ∈ F, b ∈ G) : Touch G w w1 := ⟨h.os, h.tape, h.output, h.size, fun b hb hn => h.block b hb (fun e => hn (hs b e))⟩
theorem Touch.below {F : List Nat} {w w1 : World} {B : Nat} (h : Touch F w w1) (hB : ∀ b ∈ F, B ≤ b) (hz : B ≤ w.heap.size) : Below B w w1 := ⟨h.os, h.tape, h.output, h.size, fun b hb => h.block b (by omega) (fun e => by have := hB b e; omega)⟩
/-- A box of five cells, all laid anew. -/
theorem Box.five {W : World} {g : Nat} {t : TypeId} {z0 z1 z2 z3 z4 : Value} (h : Box W g t [z0, z1, z2, z3, z4]) (c0 c1 c2 c3 c4 : Value) :
    Box (((((W.setCell ⟨g, 0, none⟩ c0).setCell ⟨g, 1, none⟩ c1).setCell ⟨g, 2, none⟩ c2).setCell ⟨g, 3, none⟩ c3).setCell ⟨g, 4, none⟩ c4) g t [c0, c1, c2, c3, c4] := by
  have := ((((h.set 0 c0).set 1 c1).set 2 c2).set 3 c3).set 4 c4
  simpa only [List.set_cons_succ, List.set_cons_zero] using this
theorem five_far {W : World} {g : Nat} (c0 c1 c2 c3 c4 : Value) {b : Nat} (hb : b ≠ g) : (((((W.setCell ⟨g, 0, none⟩ c0).setCell ⟨g, 1, none⟩ c1).setCell ⟨g, 2, none⟩ c2).setCell ⟨g, 3, none⟩ c3).setCell ⟨g, 4, none⟩ c4).heap[b]? = W.heap[b]? := by
  rw [Below.heap_setCell _ _ _ _ (by simpa using hb), Below.heap_setCell _ _ _ _ (by simpa using hb), Below.heap_setCell _ _ _ _ (by simpa using hb), Below.heap_setCell _ _ _ _ (by simpa using hb), Below.heap_setCell _ _ _ _ (by simpa using hb)]
theorem five_size {W : World} {g : Nat} (c0 c1 c2 c3 c4 : Value) : (((((W.setCell ⟨g, 0, none⟩ c0).setCell ⟨g, 1, none⟩ c1).setCell ⟨g, 2, none⟩ c2).setCell ⟨g, 3, none⟩ c3).setCell ⟨g, 4, none⟩ c4).heap.size = W.heap.size := by simp [World.setCell]
theorem five_below {B : Nat} {a W : World} (h : Below B a W) {g : Nat} (c0 c1 c2 c3 c4 : Value) (hg : B ≤ g) : Below B a (((((W.setCell ⟨g, 0, none⟩ c0).setCell ⟨g, 1, none⟩ c1).setCell ⟨g, 2, none⟩ c2).setCell ⟨g, 3, none⟩ c3).setCell ⟨g, 4, none⟩ c4) :=
  ((((h.setCell (p := ⟨g, 0, none⟩) hg c0).setCell (p := ⟨g, 1, none⟩) hg c1).setCell (p := ⟨g, 2, none⟩) hg c2).setCell (p := ⟨g, 3, none⟩) hg c3).setCell (p := ⟨g, 4, none⟩) hg c4
theorem Touch.set {F : List Nat} {w W : World} (h : Touch F w W) {p : Addr} (hp : w.heap.size ≤ p.block) (u : Value) : Touch F w (W.setCell p u) :=
  ⟨by simpa [World.setCell] using h.os, by simpa [World.setCell] using h.tape, by simpa [World.setCell] using h.output, by simpa [World.setCell] using h.size, fun b hb hn => (Below.heap_setCell _ _ _ _ (by omega)).trans (h.block b hb hn)⟩
theorem Touch.five {F : List Nat} {w W : World} (h : Touch F w W) {g : Nat} (hg : w.heap.size ≤ g) (c0 c1 c2 c3 c4 : Value) : Touch F w (((((W.setCell ⟨g, 0, none⟩ c0).setCell ⟨g, 1, none⟩ c1).setCell ⟨g, 2, none⟩ c2).setCell ⟨g, 3, none⟩ c3).setCell ⟨g, 4, none⟩ c4) :=
  ((((h.set (p := ⟨g, 0, none⟩) hg c0).set (p := ⟨g, 1, none⟩) hg c1).set (p := ⟨g, 2, none⟩) hg c2).set (p := ⟨g, 3, none⟩) hg c3).set (p := ⟨g, 4, none⟩) hg c4
theorem box_not_own {w : World} {g : Nat} {t e : TypeId} {cs : List Value} {base k n : Nat} {v : Value} {xs : List Value} (hb : Box w g t cs) (h : w.ownsRow base e k v n xs) (hte : t ≠ e) : v.ownBlock = some g → False := by
  intro hv
  rcases h.2 with ⟨rfl, _⟩ | ⟨g', cap, cur, rfl, _, hg, _⟩
  · cases hv
  · have : g' = g := by simpa [Value.ownBlock] using hv
    subst this
    rw [hb] at hg
    simp at hg
    exact hte hg.2
theorem fit_bare (s : ByteArray) (t : ByteArray) (hs : s.size ≤ 30) (ht : t.size ≤ 30 := by decide) : FitN [.mk 2 ⟨#[]⟩ [] s [], .mk 2 ⟨#[]⟩ [] t []] := by
  have h1 : ∀ u : ByteArray, u.size ≤ 30 → Fit1 (.mk 2 ⟨#[]⟩ [] u []) := fun u hu => ⟨by show (⟨#[]⟩ : ByteArray).size ≤ _; decide, by show u.size ≤ _; omega, (fun a (ha : a ∈ ([] : List Att)) => nomatch ha), by show 1 + ([] : List Att).length + M3.weight [] ≤ _; rw [M3.weight_nil]; decide⟩
  exact fitN_cons.2 ⟨h1 s hs, fitN_nil, fitN_cons.2 ⟨h1 t ht, fitN_nil, fitN_nil⟩⟩
theorem OwnC.two (w : World) (s t : ByteArray) : OwnC w [.int .i64 2, .string ⟨#[]⟩, .slice none 0 0, .string s, .slice none 0 0, .int .i64 2, .string ⟨#[]⟩, .slice none 0 0, .string t, .slice none 0 0] [.mk 2 ⟨#[]⟩ [] s [], .mk 2 ⟨#[]⟩ [] t []] [] :=
  OwnC.cons_iff.2 ⟨.slice none 0 0, .slice none 0 0, [], _, [], [], rfl, World.ownsRow_nil _ _ _ _, World.ownsRow_nil _ _ _ _, rfl, OwnC.nil _, OwnC.cons_iff.2 ⟨.slice none 0 0, .slice none 0 0, [], [], [], [], rfl, World.ownsRow_nil _ _ _ _, World.ownsRow_nil _ _ _ _, rfl, OwnC.nil _, OwnC.nil _⟩⟩
/-- 'append(s, x, y)' of two elements of k cells onto a row that the call owns. -/
theorem wpList_appTwo {P : Program} {ops : Array Oper} {rest : List Oper} {o : Oper} {a : Act} {Q : Exit → Act → World → Prop} (w1 : World) (cs : List Value) (hgd : o.guard = none) (s y : Operand) (t e : TypeId)
    (ho : o.op = .call { callee := .builtin .append, args := #[s, y], argTypes := #[t, t] }) (base k : Nat) {z : Value} {bytes : Nat} (ht : P.underlying t = some (.slice e))
    (hinfo : (P.info? e).map (fun i => (i.zero, i.size, i.bytes)) = some (some z, k, bytes)) (hz : z.cells.size = k) (hk : 0 < k)
    (v : Value) (n : Nat) (xs : List Value) (hs : a.eval s = v) (hown : w1.ownsRow base e k v n xs) (H : Nat) (hH : w1.heap.size = H) (hx : a.eval y = .slice (some ⟨H, 0, none⟩) 2 2) (hcs : cs.length = 2 * k) (h1 : ∀ u ∈ cs, u.oneCell' = true)
    (h63 : n + 2 ≤ 9223372036854775807) (hbytes : (n + 2) * bytes ≤ 140737488355328) (hbase : base ≤ w1.heap.size)
    (h : ∀ g cap w2, w2.ownsRow base e k (.slice (some ⟨g, 0, none⟩) (n + 2) cap) (n + 2) (xs ++ cs) → w1.grownBy w2 v.ownBlock → (v.ownBlock = some g ∨ w1.heap.size ≤ g) → wpList P ops Q rest (a.put o.dst (.slice (some ⟨g, 0, none⟩) (n + 2) cap)) w2) : wpList P ops Q (o :: rest) a (w1.alloc (.cells cs.toArray e)) := by
  subst hH
  obtain ⟨i, hi, hz0, hz1, hz2⟩ := info_parts hinfo
  refine wpList_append_lies _ hgd s y t ho base e i z k bytes ht hi hz0 hz1 hz2 hz hk v n xs hs (hown.alloc _) ⟨w1.heap.size, 0, none⟩ 2 2 cs hx (by omega) ?_ h1 (by omega) (by unfold maxLen; omega) hbytes (by simp; omega) _ rfl ?_
  · intro j u hj
    rw [add_plain', Nat.zero_add, World.cell?_alloc_at _ _ _ _ rfl]
    simpa using hj
  · intro g cap w2 h2 h3 h4 _
    exact h g cap w2 h2 (grownBy_of_alloc h3) (by
      rcases h4 with h4 | h4
      · exact .inl h4
      · right; rw [h4]; simp)
def TurnPost (gx : Nat) (F : List Nat) (w : World) (e : Ending) (w' : World) : Prop := ∃ x va vk, e = .returned (Nd.val x va vk) ∧ RepV (fun b => b < w'.heap.size ∧ b ≠ gx) w' x va vk ∧ FitN [x] ∧ Touch F w w'

set_option maxHeartbeats 4000000 in
set_option maxRecDepth 100000 in
theorem law03Turned (gx : Nat) (gcs : List Value) (x : Nd) (va vk : Value) (zs : List Value) (F1 : List Nat) (turn : Int) (bs : ByteArray) (w : World) (ha : w.ownsRow 0 44 2 va x.attrs.length (cellsA x.attrs)) (hk : w.ownsRow 0 28 5 vk x.kids.length zs) (hc : OwnC w zs x.kids F1)
    (hnd : (va.ownBlock.toList ++ (vk.ownBlock.toList ++ F1)).Nodup) (hlt : ∀ b ∈ va.ownBlock.toList ++ (vk.ownBlock.toList ++ F1), b < w.heap.size) (hf : FitN [x]) (hw : 1 + x.attrs.length + M3.weight x.kids ≤ 1000) (hbs : bs.size ≤ 9223372036854775807)
    (hgx : Box w gx 28 gcs) (hgn : ∀ b ∈ va.ownBlock.toList ++ (vk.ownBlock.toList ++ F1), b ≠ gx) :
    Calls Try.prog 17 #[x.val va vk, .int .i64 turn, .string bs] w (TurnPost gx (va.ownBlock.toList ++ vk.ownBlock.toList) w) := by
  obtain ⟨a1, e1, rfl⟩ := own_slice ha
  obtain ⟨a2, e2, rfl⟩ := own_slice hk
  have hfb := few_size bs
  have hfe : Hid (M3.few bs = if 30 < bs.size then bs.extract 0 30 else bs) := rfl
  cases x with | mk k n ats t ks =>
  simp only [Nd.kind, Nd.name, Nd.text, Nd.attrs, Nd.kids, Nd.val] at *
  have hrepA := fun W (hW : Below w.heap.size w W) => (Row.own (own_below ha hW) (fun g hg => ⟨((own_below ha hW).lt g hg).2, hgn g (by simp [hg])⟩) : Row (fun b => b < W.heap.size ∧ b ≠ gx) W 2 (.slice a1 ats.length e1) ats.length (cellsA ats))
  have hspk : ∀ b ∈ (Value.slice a2 ks.length e2).ownBlock.toList ++ F1, b < w.heap.size := fun b hb => hlt b (List.mem_append_right _ hb)
  have hrepK := fun W (hk2 : ∀ b ∈ (Value.slice a2 ks.length e2).ownBlock.toList ++ F1, W.heap[b]? = w.heap[b]?) (hz : w.heap.size ≤ W.heap.size) => (⟨zs, Row.own (own_keep hk (fun g hg => hk2 g (by simp [hg]))) (fun g hg => ⟨by have := hspk g (by simp [hg]); omega, hgn g (by simp [hg])⟩), RepC.mono (fun b hb => ⟨by have := hspk b (by simp [hb]); omega, hgn b (by simp [hb])⟩) _ _ (OwnC.rep _ _ _ (OwnC.keep _ _ _ (fun b hb => hk2 b (by simp [hb])) hc))⟩ : RepN (fun b => b < W.heap.size ∧ b ≠ gx) W (.slice a2 ks.length e2) ks)
  have hkw : ks.length ≤ 1000 := Nat.le_trans (M3.length_le_weight ks) (by omega)
  replace ha := Lib.hid ha
  replace hk := Lib.hid hk
  replace hc := Lib.hid hc
  replace hrepA := Lib.hid hrepA
  replace hrepK := Lib.hid hrepK
  replace hspk := Lib.hid hspk
  replace hnd := Lib.hid hnd
  replace hgx := Lib.hid hgx
  replace hgn := Lib.hid hgn
  replace hf := Lib.hid hf
  have hB0 : Below w.heap.size w ((w.alloc (.cells #[.int .i64 k, .string n, .slice a1 ats.length e1, .string t, .slice a2 ks.length e2] 28)).alloc (.cells #[.int .i64 0, .string ⟨#[]⟩, .slice none 0 0, .string ⟨#[]⟩, .slice none 0 0] 28)) := ((Below.refl _ _).alloc (Nat.le_refl _) _).alloc (by simp) _
  go_enter Try.func17, Try.ntmps17
  go_upto_if 9 with (fail)
  go_cut [2] (fun s2 wx => s2 = .string (M3.few bs) ∧ wx = (w.alloc (.cells #[.int .i64 k, .string n, .slice a1 ats.length e1, .string t, .slice a2 ks.length e2] 28)).alloc (.cells #[.int .i64 0, .string ⟨#[]⟩, .slice none 0 0, .string ⟨#[]⟩, .slice none 0 0] 28))
  case first =>
    by_cases h30 : 30 < bs.size
    · rw [if_pos h30] at hfe
      go_wp2_with fail
      go_meet
      case rel => exact ⟨by rw [hfe.out], rfl⟩
    · rw [if_neg h30] at hfe
      go_wp2_with fail
      go_meet
      case rel => exact ⟨by rw [hfe.out], rfl⟩
  case rest =>
    obtain ⟨rfl, rfl⟩ := hcut
    clear hfe
    generalize M3.few bs = by_ at *
    have fitK : ∀ (k' : Int) (n' t' : ByteArray), n'.size ≤ 268435456 → t'.size ≤ 268435456 → FitN [.mk k' n' ats t' ks] := fun k' n' t' h1 h2 => by
      have h0 := (fitN_cons.1 hf.out).1
      exact fitN_cons.2 ⟨⟨h1, h2, h0.2.2.1, h0.2.2.2⟩, (fitN_cons.1 hf.out).2.1, fitN_nil⟩
    have hns : n.size ≤ 268435456 := (fitN_cons.1 hf.out).1.1
    have hts : t.size ≤ 268435456 := (fitN_cons.1 hf.out).1.2.1
    replace fitK := Lib.hid fitK
    have same : ∀ W, Below w.heap.size w W → ∀ (k' : Int) (n' t' : ByteArray), RepV (fun b => b < W.heap.size ∧ b ≠ gx) W (.mk k' n' ats t' ks) (.slice a1 ats.length e1) (.slice a2 ks.length e2) := fun W hW k' n' t' => ⟨hrepA.out W hW, hrepK.out W (fun b hb => hW.block b (hspk.out b hb)) hW.size⟩
    replace same := Lib.hid same
    by_cases h1 : turn = 1
    · subst h1
      go_wp2_with fail
      refine bodyPost_ret (v := .agg #[.int .i64 4, .string n, .slice a1 ats.length e1, .string t, .slice a2 ks.length e2]) (by simp [results, Try.results17, go_sem]) rfl ⟨.mk 4 n ats t ks, _, _, rfl, same.out _ ?_ _ _ _, fitK.out _ _ _ hns hts, Touch.of_below ?_⟩
      all_goals exact ((Below.refl _ _).alloc (Nat.le_refl _) _).alloc (by simp) _
    have h1b : (turn == 1) = false := by simpa using h1
    by_cases h2 : turn = 2
    · subst h2
      go_wp2_with fail
      refine bodyPost_ret (v := .agg #[.int .i64 k, .string by_, .slice a1 ats.length e1, .string t, .slice a2 ks.length e2]) (by simp [results, Try.results17, go_sem]) rfl ⟨.mk k by_ ats t ks, _, _, rfl, same.out _ ?_ _ _ _, fitK.out _ _ _ (by omega) hts, Touch.of_below ?_⟩
      all_goals exact ((Below.refl _ _).alloc (Nat.le_refl _) _).alloc (by simp) _
    have h2b : (turn == 2) = false := by simpa using h2
    by_cases h3 : turn = 3
    · subst h3
      go_wp2_with fail
      refine bodyPost_ret (v := .agg #[.int .i64 k, .string n, .slice a1 ats.length e1, .string by_, .slice a2 ks.length e2]) (by simp [results, Try.results17, go_sem]) rfl ⟨.mk k n ats by_ ks, _, _, rfl, same.out _ ?_ _ _ _, fitK.out _ _ _ hns (by omega), Touch.of_below ?_⟩
      all_goals exact ((Below.refl _ _).alloc (Nat.le_refl _) _).alloc (by simp) _
    have h3b : (turn == 3) = false := by simpa using h3
    have hsZ := Lib.hid (show ((w.alloc (.cells #[.int .i64 k, .string n, .slice a1 ats.length e1, .string t, .slice a2 ks.length e2] 28)).alloc (.cells #[.int .i64 0, .string ⟨#[]⟩, .slice none 0 0, .string ⟨#[]⟩, .slice none 0 0] 28)).heap.size = w.heap.size + 2 by simp)
    have haZ := Lib.hid (own_below ha.out hB0)
    have hkZ := Lib.hid (own_below hk.out hB0)
    have hbZ := Lib.hid ((Box.new w 28 [.int .i64 k, .string n, .slice a1 ats.length e1, .string t, .slice a2 ks.length e2]).alloc (.cells #[.int .i64 0, .string ⟨#[]⟩, .slice none 0 0, .string ⟨#[]⟩, .slice none 0 0] 28))
    have hrZ : Hid (Box ((w.alloc (.cells #[.int .i64 k, .string n, .slice a1 ats.length e1, .string t, .slice a2 ks.length e2] 28)).alloc (.cells #[.int .i64 0, .string ⟨#[]⟩, .slice none 0 0, .string ⟨#[]⟩, .slice none 0 0] 28)) (w.heap.size + 1) 28 [.int .i64 0, .string ⟨#[]⟩, .slice none 0 0, .string ⟨#[]⟩, .slice none 0 0]) := by
      have := Box.new (w.alloc (.cells #[.int .i64 k, .string n, .slice a1 ats.length e1, .string t, .slice a2 ks.length e2] 28)) 28 [.int .i64 0, .string ⟨#[]⟩, .slice none 0 0, .string ⟨#[]⟩, .slice none 0 0]
      simp only [World.size_alloc] at this
      exact Lib.hid this
    have finA : ∀ (w5 : World) (v' : Value) (ats' : List Att), w5.ownsRow 0 44 2 v' ats'.length (cellsA ats') → ((w.alloc (.cells #[.int .i64 k, .string n, .slice a1 ats.length e1, .string t, .slice a2 ks.length e2] 28)).alloc (.cells #[.int .i64 0, .string ⟨#[]⟩, .slice none 0 0, .string ⟨#[]⟩, .slice none 0 0] 28)).grownBy w5 (Value.slice a1 ats.length e1).ownBlock →
        (∀ a ∈ ats', a.name.size ≤ 268435456 ∧ a.value.size ≤ 268435456) → ats'.length ≤ 2 * ats.length + 1 →
        Box ((((((w5.setCell ⟨w.heap.size, 2, none⟩ (v')).setCell ⟨w.heap.size + 1, 0, none⟩ (.int .i64 k)).setCell ⟨w.heap.size + 1, 1, none⟩ (.string n)).setCell ⟨w.heap.size + 1, 2, none⟩ (v')).setCell ⟨w.heap.size + 1, 3, none⟩ (.string t)).setCell ⟨w.heap.size + 1, 4, none⟩ (.slice a2 ks.length e2)) (w.heap.size + 1) 28 [.int .i64 k, .string n, v', .string t, .slice a2 ks.length e2] ∧
        TurnPost gx ((Value.slice a1 ats.length e1).ownBlock.toList ++ (Value.slice a2 ks.length e2).ownBlock.toList) w (.returned (.agg #[.int .i64 k, .string n, v', .string t, .slice a2 ks.length e2])) ((((((w5.setCell ⟨w.heap.size, 2, none⟩ (v')).setCell ⟨w.heap.size + 1, 0, none⟩ (.int .i64 k)).setCell ⟨w.heap.size + 1, 1, none⟩ (.string n)).setCell ⟨w.heap.size + 1, 2, none⟩ (v')).setCell ⟨w.heap.size + 1, 3, none⟩ (.string t)).setCell ⟨w.heap.size + 1, 4, none⟩ (.slice a2 ks.length e2)) := by
      intro w5 v' ats' hown5 hgrow5 hfa hla
      have hbn := hbZ.out.keep (hgrow5.block _ (by have := hsZ.out; omega) (fun e => by have := (ha.out.lt _ e.symm).2; omega))
      have hbr := hrZ.out.keep (hgrow5.block _ (by have := hsZ.out; omega) (fun e => by have := (ha.out.lt _ e.symm).2; omega))
      have hgb5 : Box w5 gx 28 gcs := (hgx.out.below hB0 hgx.out.lt).keep (hgrow5.block _ (by have := hsZ.out; have := hgx.out.lt; omega) (fun e => hgn.out gx (by rw [← e]; simp) rfl))
      have hg0 : ∀ g, v'.ownBlock = some g → g ≠ w.heap.size ∧ g ≠ w.heap.size + 1 := fun g hg => ⟨fun e => box_not_own hbn hown5 (by decide) (e ▸ hg), fun e => box_not_own hbr hown5 (by decide) (e ▸ hg)⟩
      have hfar : ∀ b, b ≠ w.heap.size → b ≠ w.heap.size + 1 → ((((((w5.setCell ⟨w.heap.size, 2, none⟩ (v')).setCell ⟨w.heap.size + 1, 0, none⟩ (.int .i64 k)).setCell ⟨w.heap.size + 1, 1, none⟩ (.string n)).setCell ⟨w.heap.size + 1, 2, none⟩ (v')).setCell ⟨w.heap.size + 1, 3, none⟩ (.string t)).setCell ⟨w.heap.size + 1, 4, none⟩ (.slice a2 ks.length e2)).heap[b]? = w5.heap[b]? := fun b h1 h2 => (five_far _ _ _ _ _ h2).trans (Below.heap_setCell _ _ _ _ (by simpa using h1))
      have hsz : ((((((w5.setCell ⟨w.heap.size, 2, none⟩ (v')).setCell ⟨w.heap.size + 1, 0, none⟩ (.int .i64 k)).setCell ⟨w.heap.size + 1, 1, none⟩ (.string n)).setCell ⟨w.heap.size + 1, 2, none⟩ (v')).setCell ⟨w.heap.size + 1, 3, none⟩ (.string t)).setCell ⟨w.heap.size + 1, 4, none⟩ (.slice a2 ks.length e2)).heap.size = w5.heap.size := (five_size _ _ _ _ _).trans (by simp [World.setCell])
      have hz5 : w.heap.size + 2 ≤ w5.heap.size := by have := hgrow5.size; have := hsZ.out; omega
      have hfit : FitN [.mk k n ats' t ks] := by
        have h0 := (fitN_cons.1 hf.out)
        exact fitN_cons.2 ⟨⟨hns, hts, hfa, by show 1 + ats'.length + M3.weight ks ≤ _; omega⟩, h0.2.1, fitN_nil⟩
      refine ⟨(hbr.far (p := ⟨w.heap.size, 2, none⟩) (by simp) _).five _ _ _ _ _, .mk k n ats' t ks, _, _, rfl, ⟨?_, ?_⟩, hfit, ?_⟩
      · exact Row.own (own_keep hown5 (fun g' hg' => hfar _ (hg0 _ hg').1 (hg0 _ hg').2)) (fun g' hg' => ⟨by
          rw [hsz]; exact (hown5.lt g' hg').2, fun e => box_not_own hgb5 hown5 (by decide) (e ▸ hg')⟩)
      · refine hrepK.out _ (fun b hb => ?_) (by rw [hsz]; omega)
        have hb1 := hspk.out b hb
        rw [hfar b (by omega) (by omega), hgrow5.block b (by have := hsZ.out; omega) (fun e => ?_)]
        · exact hB0.block b hb1
        · exact (List.nodup_append.1 hnd.out).2.2 b (by rw [← e]; simp) b hb rfl
      · refine Touch.five (Touch.set ((Touch.of_below hB0).trans (Touch.grown hgrow5 (fun g' hg' => by simp [hg']))) (Nat.le_refl _) _) (by omega) _ _ _ _ _
    replace finA := Lib.hid finA
    have finK : ∀ (w5 : World) (g cp : Nat) (more : List Nd) (ys : List Value) (F2 : List Nat), w5.ownsRow 0 28 5 (.slice (some ⟨g, 0, none⟩) (ks.length + more.length) cp) (ks.length + more.length) (zs ++ ys) → ((w.alloc (.cells #[.int .i64 k, .string n, .slice a1 ats.length e1, .string t, .slice a2 ks.length e2] 28)).alloc (.cells #[.int .i64 0, .string ⟨#[]⟩, .slice none 0 0, .string ⟨#[]⟩, .slice none 0 0] 28)).grownBy w5 (Value.slice a2 ks.length e2).ownBlock → ((Value.slice a2 ks.length e2).ownBlock = some g ∨ ((w.alloc (.cells #[.int .i64 k, .string n, .slice a1 ats.length e1, .string t, .slice a2 ks.length e2] 28)).alloc (.cells #[.int .i64 0, .string ⟨#[]⟩, .slice none 0 0, .string ⟨#[]⟩, .slice none 0 0] 28)).heap.size ≤ g) →
        (∀ W, OwnC W ys more []) → FitN [.mk k n ats t (ks ++ more)] → ∀ v', v' = .slice (some ⟨g, 0, none⟩) (ks.length + more.length) cp →
        Box ((((((w5.setCell ⟨w.heap.size, 4, none⟩ (v')).setCell ⟨w.heap.size + 1, 0, none⟩ (.int .i64 k)).setCell ⟨w.heap.size + 1, 1, none⟩ (.string n)).setCell ⟨w.heap.size + 1, 2, none⟩ (.slice a1 ats.length e1)).setCell ⟨w.heap.size + 1, 3, none⟩ (.string t)).setCell ⟨w.heap.size + 1, 4, none⟩ (v')) (w.heap.size + 1) 28 [.int .i64 k, .string n, .slice a1 ats.length e1, .string t, v'] ∧
        TurnPost gx ((Value.slice a1 ats.length e1).ownBlock.toList ++ (Value.slice a2 ks.length e2).ownBlock.toList) w (.returned (.agg #[.int .i64 k, .string n, .slice a1 ats.length e1, .string t, v'])) ((((((w5.setCell ⟨w.heap.size, 4, none⟩ (v')).setCell ⟨w.heap.size + 1, 0, none⟩ (.int .i64 k)).setCell ⟨w.heap.size + 1, 1, none⟩ (.string n)).setCell ⟨w.heap.size + 1, 2, none⟩ (.slice a1 ats.length e1)).setCell ⟨w.heap.size + 1, 3, none⟩ (.string t)).setCell ⟨w.heap.size + 1, 4, none⟩ (v')) := by
      intro w5 g cp more ys F2 hown5 hgrow5 hat5 hmore hfit v' hv'
      have hkl := fun b (hb : (Value.slice a2 ks.length e2).ownBlock = some b) => (hk.out.lt _ hb).2
      have hbr := hrZ.out.keep (hgrow5.block _ (by have := hsZ.out; omega) (fun e => by have := hkl _ e.symm; omega))
      have hg0 : g ≠ w.heap.size ∧ g ≠ w.heap.size + 1 := by
        rcases hat5 with h | h
        · have := hkl _ h; omega
        · have := hsZ.out; omega
      have hfar : ∀ b, b ≠ w.heap.size → b ≠ w.heap.size + 1 → ((((((w5.setCell ⟨w.heap.size, 4, none⟩ (v')).setCell ⟨w.heap.size + 1, 0, none⟩ (.int .i64 k)).setCell ⟨w.heap.size + 1, 1, none⟩ (.string n)).setCell ⟨w.heap.size + 1, 2, none⟩ (.slice a1 ats.length e1)).setCell ⟨w.heap.size + 1, 3, none⟩ (.string t)).setCell ⟨w.heap.size + 1, 4, none⟩ (v')).heap[b]? = w5.heap[b]? := fun b h1 h2 => (five_far _ _ _ _ _ h2).trans (Below.heap_setCell _ _ _ _ (by simpa using h1))
      have hsz : ((((((w5.setCell ⟨w.heap.size, 4, none⟩ (v')).setCell ⟨w.heap.size + 1, 0, none⟩ (.int .i64 k)).setCell ⟨w.heap.size + 1, 1, none⟩ (.string n)).setCell ⟨w.heap.size + 1, 2, none⟩ (.slice a1 ats.length e1)).setCell ⟨w.heap.size + 1, 3, none⟩ (.string t)).setCell ⟨w.heap.size + 1, 4, none⟩ (v')).heap.size = w5.heap.size := (five_size _ _ _ _ _).trans (by simp [World.setCell])
      have hz5 : w.heap.size + 2 ≤ w5.heap.size := by have := hgrow5.size; have := hsZ.out; omega
      have hF1 : ∀ b ∈ F1, ((((((w5.setCell ⟨w.heap.size, 4, none⟩ (v')).setCell ⟨w.heap.size + 1, 0, none⟩ (.int .i64 k)).setCell ⟨w.heap.size + 1, 1, none⟩ (.string n)).setCell ⟨w.heap.size + 1, 2, none⟩ (.slice a1 ats.length e1)).setCell ⟨w.heap.size + 1, 3, none⟩ (.string t)).setCell ⟨w.heap.size + 1, 4, none⟩ (v')).heap[b]? = w.heap[b]? := fun b hb => by
        have hb1 := hspk.out b (List.mem_append_right _ hb)
        rw [hfar b (by omega) (by omega), hgrow5.block b (by have := hsZ.out; omega) (fun e => ?_)]
        · exact hB0.block b hb1
        · exact (List.nodup_append.1 (List.nodup_append.1 hnd.out).2.1).2.2 b (by rw [← e]; simp) b hb rfl
      have hA : ∀ g', (Value.slice a1 ats.length e1).ownBlock = some g' → ((((((w5.setCell ⟨w.heap.size, 4, none⟩ (v')).setCell ⟨w.heap.size + 1, 0, none⟩ (.int .i64 k)).setCell ⟨w.heap.size + 1, 1, none⟩ (.string n)).setCell ⟨w.heap.size + 1, 2, none⟩ (.slice a1 ats.length e1)).setCell ⟨w.heap.size + 1, 3, none⟩ (.string t)).setCell ⟨w.heap.size + 1, 4, none⟩ (v')).heap[g']? = w.heap[g']? := fun b hb => by
        have hb1 := (ha.out.lt _ hb).2
        rw [hfar b (by omega) (by omega), hgrow5.block b (by have := hsZ.out; omega) (fun e => ?_)]
        · exact hB0.block b hb1
        · exact (List.nodup_append.1 hnd.out).2.2 b (by simp [hb]) b (List.mem_append_left _ (by rw [← e]; simp)) rfl
      refine ⟨(hbr.far (p := ⟨w.heap.size, 4, none⟩) (by simp) _).five _ _ _ _ _, .mk k n ats t (ks ++ more), _, _, rfl, ⟨?_, ?_⟩, hfit, ?_⟩
      · exact Row.own (own_keep ha.out hA) (fun g' hg' => ⟨by rw [hsz]; have := (ha.out.lt _ hg').2; omega, hgn.out g' (by simp [hg'])⟩)
      · subst hv'
        refine ⟨zs ++ ys, ?_, ?_⟩
        · rw [show (Nd.mk k n ats t (ks ++ more)).kids.length = ks.length + more.length from List.length_append]
          exact Row.own (own_keep hown5 (fun g' hg' => by
            have : g = g' := by simpa [Value.ownBlock] using hg'
            subst this
            exact hfar _ hg0.1 hg0.2)) (fun g' hg' => ⟨by
            rw [hsz]; exact (hown5.lt g' hg').2, fun e => by
            have : g = g' := by simpa [Value.ownBlock] using hg'
            rcases hat5 with h | h
            · exact hgn.out g (by rw [h]; simp) (this.trans e)
            · have := hgx.out.lt; have := hsZ.out; omega⟩)
        · exact RepC.mono (fun b hb => ⟨by have := hspk.out b (List.mem_append_right _ (by simpa using hb)); omega, hgn.out b (by simp at hb; simp [hb])⟩) _ _ (OwnC.rep _ _ _ (OwnC.append (hmore _) _ _ _ (OwnC.keep _ _ _ hF1 hc.out)))
      · refine Touch.five (Touch.set ((Touch.of_below hB0).trans (Touch.grown hgrow5 (fun g' hg' => by simp [hg']))) (Nat.le_refl _) _) (by omega) _ _ _ _ _
    replace finK := Lib.hid finK
    by_cases h4 : turn = 4
    · subst h4
      go_wp2_with (at_builtin; refine wpList_appK _ [.string by_, .string ⟨#[118]⟩] 2 rfl _ _ 26 44 rfl 0 Try.underlying26 infoA rfl (by omega) _ ats.length (cellsA ats) rfl haZ.out (w.heap.size + 2) hsZ.out (by rfl) rfl (by simp [Value.oneCell']) (by omega) (by omega) (Nat.zero_le _) ?_; intro g cp w5 hown5 hgrow5 hat5; have hbn := hbZ.out.keep (hgrow5.block _ (by have := hsZ.out; omega) (fun e => by have := (ha.out.lt _ e.symm).2; omega)); have hbr := hrZ.out.keep (hgrow5.block _ (by have := hsZ.out; omega) (fun e => by have := (ha.out.lt _ e.symm).2; omega)); have n0 := hbn.cell (i := 0) rfl; have n1 := hbn.cell (i := 1) rfl; have n2 := hbn.cell (i := 2) rfl; have n3 := hbn.cell (i := 3) rfl; have n4 := hbn.cell (i := 4) rfl; have nf := hbn.free 2; have nf4 := hbn.free 4; have r0 := hbr.cell (i := 0) rfl; have r1 := hbr.cell (i := 1) rfl; have r2 := hbr.cell (i := 2) rfl; have r3 := hbr.cell (i := 3) rfl; have r4 := hbr.cell (i := 4) rfl; have rf0 := hbr.free 0; have rf1 := hbr.free 1; have rf2 := hbr.free 2; have rf3 := hbr.free 3; have rf4 := hbr.free 4)
      obtain ⟨hbF, hpF⟩ := finA.out w5 (.slice (some ⟨g, 0, none⟩) (ats.length + 1) cp) (ats ++ [⟨by_, ⟨#[118]⟩⟩]) (by rw [cellsA_append, List.length_append]; exact hown5) hgrow5 (fun x hx => by
        rcases List.mem_append.1 hx with h | h
        · exact (fitN_cons.1 hf.out).1.2.2.1 x h
        · simp at h; subst h; exact ⟨by show by_.size ≤ _; omega, by show (⟨#[118]⟩ : ByteArray).size ≤ _; decide⟩) (by simp; omega)
      revert hbF hpF
      generalize World.setCell _ _ _ = W5
      intro hbF hpF
      have t0 := hbF.cell (i := 0) rfl
      have t1 := hbF.cell (i := 1) rfl
      have t2 := hbF.cell (i := 2) rfl
      have t3 := hbF.cell (i := 3) rfl
      have t4 := hbF.cell (i := 4) rfl
      exact bodyPost_ret (v := .agg #[.int .i64 k, .string n, .slice (some ⟨g, 0, none⟩) (ats.length + 1) cp, .string t, .slice a2 ks.length e2]) (by simp [results, Try.results17, go_sem, t0, t1, t2, t3, t4]) rfl hpF
    have h4b : (turn == 4) = false := by simpa using h4
    by_cases h5 : turn = 5
    · subst h5
      go_wp2_with (at_builtin; refine wpList_appK _ [.string ⟨#[105, 100]⟩, .string by_] 2 rfl _ _ 26 44 rfl 0 Try.underlying26 infoA rfl (by omega) _ ats.length (cellsA ats) rfl haZ.out (w.heap.size + 2) hsZ.out (by rfl) rfl (by simp [Value.oneCell']) (by omega) (by omega) (Nat.zero_le _) ?_; intro g cp w5 hown5 hgrow5 hat5; have hbn := hbZ.out.keep (hgrow5.block _ (by have := hsZ.out; omega) (fun e => by have := (ha.out.lt _ e.symm).2; omega)); have hbr := hrZ.out.keep (hgrow5.block _ (by have := hsZ.out; omega) (fun e => by have := (ha.out.lt _ e.symm).2; omega)); have n0 := hbn.cell (i := 0) rfl; have n1 := hbn.cell (i := 1) rfl; have n2 := hbn.cell (i := 2) rfl; have n3 := hbn.cell (i := 3) rfl; have n4 := hbn.cell (i := 4) rfl; have nf := hbn.free 2; have nf4 := hbn.free 4; have r0 := hbr.cell (i := 0) rfl; have r1 := hbr.cell (i := 1) rfl; have r2 := hbr.cell (i := 2) rfl; have r3 := hbr.cell (i := 3) rfl; have r4 := hbr.cell (i := 4) rfl; have rf0 := hbr.free 0; have rf1 := hbr.free 1; have rf2 := hbr.free 2; have rf3 := hbr.free 3; have rf4 := hbr.free 4)
      obtain ⟨hbF, hpF⟩ := finA.out w5 (.slice (some ⟨g, 0, none⟩) (ats.length + 1) cp) (ats ++ [⟨⟨#[105, 100]⟩, by_⟩]) (by rw [cellsA_append, List.length_append]; exact hown5) hgrow5 (fun x hx => by
        rcases List.mem_append.1 hx with h | h
        · exact (fitN_cons.1 hf.out).1.2.2.1 x h
        · simp at h; subst h; exact ⟨by show (⟨#[105, 100]⟩ : ByteArray).size ≤ _; decide, by show by_.size ≤ _; omega⟩) (by simp; omega)
      revert hbF hpF
      generalize World.setCell _ _ _ = W5
      intro hbF hpF
      have t0 := hbF.cell (i := 0) rfl
      have t1 := hbF.cell (i := 1) rfl
      have t2 := hbF.cell (i := 2) rfl
      have t3 := hbF.cell (i := 3) rfl
      have t4 := hbF.cell (i := 4) rfl
      exact bodyPost_ret (v := .agg #[.int .i64 k, .string n, .slice (some ⟨g, 0, none⟩) (ats.length + 1) cp, .string t, .slice a2 ks.length e2]) (by simp [results, Try.results17, go_sem, t0, t1, t2, t3, t4]) rfl hpF
    have h5b : (turn == 5) = false := by simpa using h5
    by_cases h6 : turn = 6
    · subst h6
      go_wp2_with (at_builtin; refine wpList_appTwo _ [.int .i64 2, .string ⟨#[]⟩, .slice none 0 0, .string by_, .slice none 0 0, .int .i64 2, .string ⟨#[]⟩, .slice none 0 0, .string ⟨#[116]⟩, .slice none 0 0] rfl _ _ 22 28 rfl 0 5 Try.underlying22 infoN rfl (by omega) _ ks.length zs rfl hkZ.out (w.heap.size + 2) hsZ.out (by rfl) rfl (by simp [Value.oneCell']) (by omega) (by omega) (Nat.zero_le _) ?_; intro g cp w5 hown5 hgrow5 hat5; have hbn := hbZ.out.keep (hgrow5.block _ (by have := hsZ.out; omega) (fun e => by have := (hk.out.lt _ e.symm).2; omega)); have hbr := hrZ.out.keep (hgrow5.block _ (by have := hsZ.out; omega) (fun e => by have := (hk.out.lt _ e.symm).2; omega)); have n0 := hbn.cell (i := 0) rfl; have n1 := hbn.cell (i := 1) rfl; have n2 := hbn.cell (i := 2) rfl; have n3 := hbn.cell (i := 3) rfl; have n4 := hbn.cell (i := 4) rfl; have nf := hbn.free 2; have nf4 := hbn.free 4; have r0 := hbr.cell (i := 0) rfl; have r1 := hbr.cell (i := 1) rfl; have r2 := hbr.cell (i := 2) rfl; have r3 := hbr.cell (i := 3) rfl; have r4 := hbr.cell (i := 4) rfl; have rf0 := hbr.free 0; have rf1 := hbr.free 1; have rf2 := hbr.free 2; have rf3 := hbr.free 3; have rf4 := hbr.free 4)
      obtain ⟨hbF, hpF⟩ := finK.out w5 g cp [.mk 2 ⟨#[]⟩ [] by_ [], .mk 2 ⟨#[]⟩ [] ⟨#[116]⟩ []] [.int .i64 2, .string ⟨#[]⟩, .slice none 0 0, .string by_, .slice none 0 0, .int .i64 2, .string ⟨#[]⟩, .slice none 0 0, .string ⟨#[116]⟩, .slice none 0 0] [] hown5 hgrow5 hat5 (fun W => OwnC.two W _ _) (by
        have h0 := (fitN_cons.1 hf.out)
        refine fitN_cons.2 ⟨⟨hns, hts, h0.1.2.2.1, ?_⟩, fitN_append.2 ⟨h0.2.1, fit_bare _ _ hfb⟩, fitN_nil⟩
        · show 1 + ats.length + M3.weight (ks ++ [.mk 2 ⟨#[]⟩ [] by_ [], .mk 2 ⟨#[]⟩ [] ⟨#[116]⟩ []]) ≤ _
          rw [M3.weight_append, show M3.weight [.mk 2 ⟨#[]⟩ [] by_ [], .mk 2 ⟨#[]⟩ [] ⟨#[116]⟩ []] = 2 by simp [M3.weight_cons, M3.weight_nil, Nd.attrs, Nd.kids]]
          omega) _ rfl
      revert hbF hpF
      generalize World.setCell _ _ _ = W5
      intro hbF hpF
      have t0 := hbF.cell (i := 0) rfl
      have t1 := hbF.cell (i := 1) rfl
      have t2 := hbF.cell (i := 2) rfl
      have t3 := hbF.cell (i := 3) rfl
      have t4 := hbF.cell (i := 4) rfl
      exact bodyPost_ret (v := .agg #[.int .i64 k, .string n, .slice a1 ats.length e1, .string t, .slice (some ⟨g, 0, none⟩) (ks.length + 2) cp]) (by simp [results, Try.results17, go_sem, t0, t1, t2, t3, t4]) rfl hpF
    have h6b : (turn == 6) = false := by simpa using h6
    by_cases h7 : turn = 7
    · subst h7
      go_wp2_with (at_builtin; refine wpList_appRow _ rfl _ _ 26 44 rfl 0 2 Try.underlying26 infoA rfl (by omega) _ ats.length (cellsA ats) rfl haZ.out (fun _ => True) _ ats.length (cellsA ats) rfl (Row.own haZ.out (fun _ _ => trivial)) (cellsA_one ats) (by omega) (by omega) (Nat.zero_le _) ?_; intro v' w5 hown5 hgrow5; obtain ⟨av, cv, rfl⟩ := own_slice hown5; have hbn := hbZ.out.keep (hgrow5.block _ (by have := hsZ.out; omega) (fun e => by have := (ha.out.lt _ e.symm).2; omega)); have hbr := hrZ.out.keep (hgrow5.block _ (by have := hsZ.out; omega) (fun e => by have := (ha.out.lt _ e.symm).2; omega)); have n0 := hbn.cell (i := 0) rfl; have n1 := hbn.cell (i := 1) rfl; have n2 := hbn.cell (i := 2) rfl; have n3 := hbn.cell (i := 3) rfl; have n4 := hbn.cell (i := 4) rfl; have nf := hbn.free 2; have nf4 := hbn.free 4; have r0 := hbr.cell (i := 0) rfl; have r1 := hbr.cell (i := 1) rfl; have r2 := hbr.cell (i := 2) rfl; have r3 := hbr.cell (i := 3) rfl; have r4 := hbr.cell (i := 4) rfl; have rf0 := hbr.free 0; have rf1 := hbr.free 1; have rf2 := hbr.free 2; have rf3 := hbr.free 3; have rf4 := hbr.free 4)
      obtain ⟨hbF, hpF⟩ := finA.out w5 (.slice av (ats.length + ats.length) cv) (ats ++ ats) (by rw [cellsA_append, List.length_append]; exact hown5) hgrow5 (fun x hx => by
        rcases List.mem_append.1 hx with h | h <;> exact (fitN_cons.1 hf.out).1.2.2.1 x h) (by simp; omega)
      revert hbF hpF
      generalize World.setCell _ _ _ = W5
      intro hbF hpF
      have t0 := hbF.cell (i := 0) rfl
      have t1 := hbF.cell (i := 1) rfl
      have t2 := hbF.cell (i := 2) rfl
      have t3 := hbF.cell (i := 3) rfl
      have t4 := hbF.cell (i := 4) rfl
      exact bodyPost_ret (v := .agg #[.int .i64 k, .string n, .slice av (ats.length + ats.length) cv, .string t, .slice a2 ks.length e2]) (by simp [results, Try.results17, go_sem, t0, t1, t2, t3, t4]) rfl hpF
    have h7b : (turn == 7) = false := by simpa using h7
    clear h1 h2 h3 h4 h5 h6 h7
    go_wp2_with fail
    refine bodyPost_ret (v := .agg #[.int .i64 k, .string n, .slice a1 ats.length e1, .string t, .slice a2 ks.length e2]) (by simp [results, Try.results17, go_sem]) rfl ⟨.mk k n ats t ks, _, _, rfl, same.out _ ?_ _ _ _, fitK.out _ _ _ hns hts, Touch.of_below ?_⟩
    all_goals exact ((Below.refl _ _).alloc (Nat.le_refl _) _).alloc (by simp) _
end Go.Proofs.Ytjelmpajphajfaa

/- The statements of layer 3: nodes that may be. -/
namespace Go.Proofs.Ytjelmpajphajfaa
open Go.RowKit

theorem own_box {w : World} {B g cap : Nat} {e : TypeId} {k n : Nat} {xs : List Value} (h : w.ownsRow B e k (.slice (some ⟨g, 0, none⟩) n cap) n xs) : ∃ cs, Box w g e cs := by
  rcases h.2 with ⟨h', _⟩ | ⟨g', cap', cur, h', _, hg, _⟩
  · cases h'
  · cases h'
    exact ⟨cur.toList, by unfold Box; simpa using hg⟩
/-- A node that the call owns, the first of its list. -/
theorem Fresh.first {w : World} {B : Nat} {v : Value} {x : Nd} {r : List Nd} (h : Fresh w B v (x :: r)) : ∃ g cap va vk zs ys F1 F2, v = .slice (some ⟨g, 0, none⟩) (r.length + 1) cap ∧ w.ownsRow B 28 5 v (r.length + 1) (x.cells va vk ++ ys) ∧
    w.ownsRow 0 44 2 va x.attrs.length (cellsA x.attrs) ∧ w.ownsRow 0 28 5 vk x.kids.length zs ∧ OwnC w zs x.kids F1 ∧ OwnC w ys r F2 ∧ Span B w.heap.size (g :: ((va.ownBlock.toList ++ (vk.ownBlock.toList ++ F1)) ++ F2)) := by
  obtain ⟨zs, F, h1, h2, h3⟩ := h
  obtain ⟨va, vk, zs', ys, F1, F2, rfl, h4, h5, rfl, h6, h7⟩ := OwnC.cons_iff.1 h2
  rcases h1.2 with ⟨_, h'⟩ | ⟨g, cap, cur, rfl, _, hg, _⟩
  · simp at h'
  · exact ⟨g, cap, va, vk, zs', ys, F1, F2, rfl, h1, h4, h5, h6, h7, by simpa [Value.ownBlock] using h3⟩

set_option maxHeartbeats 4000000 in
set_option maxRecDepth 100000 in
theorem law03DomMay (l : List Nd) (S : Nat → Prop) (v : Value) (turn : Int) (bs : ByteArray) (w : World) (hS : ∀ b, S b → b < w.heap.size) (hr : RepN S w v l) (hsz : SzN l) (hbs : bs.size ≤ maxLen) :
    Calls Try.prog 3 #[v, .int .i64 turn, .string bs] w fun e w' => e = .returned (.bool true) ∧ Below w.heap.size w w' := by
  unfold maxLen at hbs
  have hF := Lib.hid (ref03Few S v l w hS hr hsz)
  obtain ⟨a, cap, rfl⟩ := hr.slice
  go_enter Try.func3, Try.ntmps3
  go_wp2_with fail
  refine hF.out.mono ?_
  rintro e w1 ⟨v1, rfl, hm1, hb1⟩
  have hfit1 := fewN_fit l
  have hD := Lib.hid (domMay _ v1 (fewN l) w1 (fun b h => h.2) hm1.rep hfit1)
  have hR := Lib.hid (fun W (hW : Below w1.heap.size w1 W) => ref03May (M3.weight (fewN l) + 1) _ v1 (fewN l) W (by omega) hfit1 (fun b (h : _ ∧ _) => Nat.lt_of_lt_of_le h.2 hW.size) (hm1.rep.keep (fun b h => hW.block b h.2)))
  have hG := Lib.hid (fun W (hW : Below w1.heap.size w1 W) => ref03Good _ v1 (fewN l) W (fun b (h : _ ∧ _) => Nat.lt_of_lt_of_le h.2 hW.size) (hm1.rep.keep (fun b h => hW.block b h.2)) (fit_szN _ hfit1))
  obtain ⟨a1, c1, rfl⟩ := hm1.rep.slice
  clear hm1 hF hfit1
  have hgm := Lib.hid (gd_may (fewN l))
  have hgf := gd_fit (fewN l)
  have hgw := gd_weight (fewN l)
  generalize gdN (fewN l) = L at *
  generalize hfl : fewN l = fl at *
  replace hfl := Lib.hid hfl
  replace hgf := Lib.hid hgf
  go_wp2_with fail
  refine hD.out.mono ?_
  rintro e w2 ⟨rfl, hb2⟩
  go_wp2_with fail
  refine (hR.out _ hb2).mono ?_
  rintro e w3 ⟨rfl, hb3⟩
  have hb13 := bt hb2 hb3
  generalize M3.mayE false fl = mv at *
  clear hD hR
  go_wp2_with fail
  refine (hG.out _ hb13).mono ?_
  rintro e w4 ⟨v4, rfl, hf4, hb4⟩
  have hD4 := Lib.hid (domMay _ v4 L w4 (fun b h => h.2) hf4.rep hgf.out)
  rw [hgm.out] at hD4
  obtain ⟨a4, c4, hv4⟩ := hf4.rep.slice
  subst hv4
  clear hG
  have hb04 : Below w.heap.size w w4 := bt hb1 (bt hb13 hb4)
  go_wp2_with fail
  refine hD4.out.mono ?_
  rintro e w5 ⟨rfl, hb5⟩
  clear hD4
  have hzw : w.heap.size ≤ w4.heap.size := hb04.size
  have hb05 : Below w.heap.size w w5 := bt hb04 hb5
  cases L with
  | nil =>
    have hD5 := Lib.hid (domMay _ _ [] w5 (fun b (h : _ ∧ _) => Nat.lt_of_lt_of_le h.2 hb5.size) (hf4.rep.keep (fun b h => hb5.block b h.2)) fitN_nil)
    have hR5 := Lib.hid (fun W (hW : Below w5.heap.size w5 W) => ref03May 1 _ _ [] W (by rw [M3.weight_nil]; omega) fitN_nil (fun b (h : _ ∧ _) => Nat.lt_of_lt_of_le h.2 (Nat.le_trans hb5.size hW.size)) (hf4.rep.keep (fun b h => (hW.block b (Nat.lt_of_lt_of_le h.2 hb5.size)).trans (hb5.block b h.2))))
    clear hf4
    go_wp2_with fail
    refine hD5.out.mono ?_
    rintro e w6 ⟨rfl, hb6⟩
    go_wp2_with fail
    refine (hR5.out _ hb6).mono ?_
    rintro e w7 ⟨rfl, hb7⟩
    generalize M3.mayE false [] = m0 at *
    clear hD5 hR5
    go_wp2_with fail
    refine (lives03 _).mono ?_
    rintro e w8 ⟨rfl, hb8⟩
    have hbb := bt (bt (bt hb05 hb6) hb7) hb8
    go_wp2_with fail
    go_ret
    exact ⟨rfl, hbb⟩
  | cons x r =>
    obtain ⟨g, cap4, va, vk, zs, ys, F1, F2, hv4, h1, h2, h3, h4, h5, h6⟩ := hf4.first
    cases hv4
    obtain ⟨a5, c5, rfl⟩ := own_slice h2
    obtain ⟨a6, c6, rfl⟩ := own_slice h3
    have h15 := own_below h1 hb5
    have h25 := own_below h2 hb5
    have h35 := own_below h3 hb5
    obtain ⟨gcs, hbx5⟩ := own_box h15
    have hin : ∀ b ∈ g :: (((Value.slice a5 x.attrs.length c5).ownBlock.toList ++ ((Value.slice a6 x.kids.length c6).ownBlock.toList ++ F1)) ++ F2), b < w5.heap.size := fun b hb => Nat.lt_of_lt_of_le (h6.2 b hb).2 hb5.size
    have h45 : OwnC w5 zs x.kids F1 := OwnC.keep _ _ _ (fun b hb => hb5.block b (h6.2 b (by simp [hb])).2) h4
    have h55 : OwnC w5 ys r F2 := OwnC.keep _ _ _ (fun b hb => hb5.block b (h6.2 b (by simp [hb])).2) h5
    have hnd := h6.1
    rw [List.nodup_cons] at hnd
    obtain ⟨hnd1, hnd2⟩ := hnd
    have hnd3 := (List.nodup_append.1 hnd2).1
    have hcl := fun j u (hu : (x.cells (.slice a5 x.attrs.length c5) (.slice a6 x.kids.length c6) ++ ys)[j]? = some u) => by
      have := h15.cells (g := g) rfl j u hu
      rwa [add_plain', Nat.zero_add] at this
    have p0 := hcl 0 _ rfl
    have p1 := hcl 1 _ rfl
    have p2 := hcl 2 _ rfl
    have p3 := hcl 3 _ rfl
    have p4 := hcl 4 _ rfl
    have hgf2 := fitN_cons.1 hgf.out
    rw [M3.weight_cons] at hgw
    have hT := Lib.hid (law03Turned g gcs x _ _ zs F1 turn bs w5 h25 h35 h45 hnd3 (fun b hb => hin b (by simp at hb ⊢; rcases hb with h | h | h <;> simp [h])) (fitN_cons.2 ⟨hgf2.1, hgf2.2.1, fitN_nil⟩) (by omega) hbs hbx5 (fun b hb e => hnd1 (by subst e; simp at hb ⊢; rcases hb with h | h | h <;> simp [h])))
    have hlow : w.heap.size ≤ g := Nat.le_trans (Nat.le_trans hb1.size hb13.size) (h6.2 g (by simp)).1
    have hlows : ∀ b ∈ (Value.slice a5 x.attrs.length c5).ownBlock.toList ++ (Value.slice a6 x.kids.length c6).ownBlock.toList, w.heap.size ≤ b := fun b hb => Nat.le_trans (Nat.le_trans hb1.size hb13.size) (h6.2 b (by simp at hb ⊢; rcases hb with h | h <;> simp [h])).1
    have hgnF : g ∉ (Value.slice a5 x.attrs.length c5).ownBlock.toList ++ (Value.slice a6 x.kids.length c6).ownBlock.toList := fun h => hnd1 (by simp at h ⊢; rcases h with h | h <;> simp [h])
    have hF2 : ∀ b ∈ F2, b < w5.heap.size ∧ b ∉ (Value.slice a5 x.attrs.length c5).ownBlock.toList ++ (Value.slice a6 x.kids.length c6).ownBlock.toList ∧ b ≠ g := fun b hb => ⟨hin b (by simp [hb]), fun h => (List.nodup_append.1 hnd2).2.2 b (by simp at h ⊢; rcases h with h | h <;> simp [h]) b hb rfl, fun e => hnd1 (by subst e; simp [hb])⟩
    have hfr := hgf2.2.2
    have hz5 := hb05.size
    have hgl := hbx5.lt
    generalize (Value.slice a5 x.attrs.length c5).ownBlock.toList ++ (Value.slice a6 x.kids.length c6).ownBlock.toList = F at *
    clear hf4 h1 h2 h3 h4 h5 h6 h25 h35 h45 hin hnd1 hnd2 hnd3 hgf2 hgf hcl
    replace h15 := Lib.hid h15
    replace h55 := Lib.hid h55
    replace hlows := Lib.hid hlows
    replace hF2 := Lib.hid hF2
    have hl1 : (x :: r).length = r.length + 1 := rfl
    go_wp2_with fail
    refine hT.out.mono ?_
    rintro e w6 ⟨x', va', vk', rfl, hrv, hfx, htch⟩
    obtain ⟨a7, c7, rfl⟩ := hrv.at_.slice
    obtain ⟨a8, c8, rfl⟩ := hrv.kids.slice
    have hbx6 := hbx5.keep (htch.block g hgl hgnF)
    have h16 := Lib.hid (own_keep h15.out (w' := w6) (fun b hb => by cases hb; exact htch.block g hgl hgnF))
    have hb06 : Below w.heap.size w w6 := hb05.trans (htch.below hlows.out (by omega))
    have h56 : OwnC w6 ys r F2 := OwnC.keep _ _ _ (fun b hb => htch.block b (hF2.out b hb).1 (hF2.out b hb).2.1) h55.out
    replace hrv := Lib.hid hrv
    replace h56 := Lib.hid h56
    replace hfx := Lib.hid hfx
    have hz6 := htch.size
    clear hT h15 h55 htch
    have q0 := hbx6.free 0
    have q1 := hbx6.free 1
    have q2 := hbx6.free 2
    have q3 := hbx6.free 3
    have q4 := hbx6.free 4
    have k0 := h16.out.cells (g := g) rfl 0 _ rfl
    have k1 := h16.out.cells (g := g) rfl 1 _ rfl
    have k2 := h16.out.cells (g := g) rfl 2 _ rfl
    have k3 := h16.out.cells (g := g) rfl 3 _ rfl
    have k4 := h16.out.cells (g := g) rfl 4 _ rfl
    rw [add_plain'] at k0 k1 k2 k3 k4
    have hW7 : RepN (fun b => b < (((((w6.setCell ⟨g, 0, none⟩ (.int .i64 x'.kind)).setCell ⟨g, 1, none⟩ (.string x'.name)).setCell ⟨g, 2, none⟩ (.slice a7 x'.attrs.length c7)).setCell ⟨g, 3, none⟩ (.string x'.text)).setCell ⟨g, 4, none⟩ (.slice a8 x'.kids.length c8)).heap.size) (((((w6.setCell ⟨g, 0, none⟩ (.int .i64 x'.kind)).setCell ⟨g, 1, none⟩ (.string x'.name)).setCell ⟨g, 2, none⟩ (.slice a7 x'.attrs.length c7)).setCell ⟨g, 3, none⟩ (.string x'.text)).setCell ⟨g, 4, none⟩ (.slice a8 x'.kids.length c8)) (.slice (some ⟨g, 0, none⟩) (r.length + 1) c4) (x' :: r) := by
      have e1 := (h16.out.stored 0 (.int .i64 x'.kind)).1
      have e2 := (e1.stored 1 (.string x'.name)).1
      have e3 := (e2.stored 2 (.slice a7 x'.attrs.length c7)).1
      have e4 := (e3.stored 3 (.string x'.text)).1
      have e5 := (e4.stored 4 (.slice a8 x'.kids.length c8)).1
      have hx5 : (((((x.cells (.slice a5 x.attrs.length c5) (.slice a6 x.kids.length c6) ++ ys).set 0 (.int .i64 x'.kind)).set 1 (.string x'.name)).set 2 (.slice a7 x'.attrs.length c7)).set 3 (.string x'.text)).set 4 (.slice a8 x'.kids.length c8) = x'.cells (.slice a7 x'.attrs.length c7) (.slice a8 x'.kids.length c8) ++ ys := rfl
      rw [hx5] at e5
      have hlt := (e5.lt g rfl).2
      refine ⟨_, Row.own e5 ?_, ?_⟩
      · intro g' hg'
        cases hg'
        exact hlt
      refine RepC.append (m := r) ?_ [x'] _ ?_
      · exact RepC.mono (fun b hb => Nat.lt_of_lt_of_le (hF2.out b hb).1 (by rw [five_size]; exact hz6)) _ _ (OwnC.rep _ _ _ (OwnC.keep _ _ _ (fun b hb => five_far _ _ _ _ _ (hF2.out b hb).2.2) h56.out))
      · exact RepC.mono (fun b hb => by rw [five_size]; exact hb.1) _ _ (RepC.keep (fun b hb => five_far _ _ _ _ _ hb.2) _ _ (RepC.single hrv.out))
    have hb7 : Below w.heap.size w (((((w6.setCell ⟨g, 0, none⟩ (.int .i64 x'.kind)).setCell ⟨g, 1, none⟩ (.string x'.name)).setCell ⟨g, 2, none⟩ (.slice a7 x'.attrs.length c7)).setCell ⟨g, 3, none⟩ (.string x'.text)).setCell ⟨g, 4, none⟩ (.slice a8 x'.kids.length c8)) := five_below hb06 _ _ _ _ _ hlow
    have hfit7 : FitN (x' :: r) := fitN_cons.2 ⟨(fitN_cons.1 hfx.out).1, (fitN_cons.1 hfx.out).2.1, hfr⟩
    have hD7 := Lib.hid (domMay _ _ (x' :: r) _ (fun b h => h) hW7 hfit7)
    have hR7 := Lib.hid (fun W hW => ref03May (M3.weight (x' :: r) + 1) _ _ (x' :: r) W (by omega) hfit7 (fun b h => Nat.lt_of_lt_of_le h (Below.size hW)) (hW7.keep (fun b h => Below.block hW b h)))
    replace hb7 := Lib.hid hb7
    clear hW7 hrv h56 hfx h16 hb06 hbx6
    generalize M3.mayE false (x' :: r) = m0 at *
    go_wp2_with fail
    refine hD7.out.mono ?_
    rintro e w7 ⟨rfl, hb8⟩
    have hR8 := Lib.hid (hR7.out _ hb8)
    have hb9 := Lib.hid (hb7.out.trans (hb8.mono hb7.out.size))
    clear hD7 hR7 hb7 hb8 k0 k1 k2 k3 k4 q0 q1 q2 q3 q4
    go_wp2_with fail
    refine hR8.out.mono ?_
    rintro e w8 ⟨rfl, hb10⟩
    clear hR8
    go_wp2_with fail
    refine (lives03 _).mono ?_
    rintro e w9 ⟨rfl, hb11⟩
    have hbb := bt (bt hb9.out hb10) hb11
    go_wp2_with fail
    go_ret
    exact ⟨rfl, hbb⟩
end Go.Proofs.Ytjelmpajphajfaa
