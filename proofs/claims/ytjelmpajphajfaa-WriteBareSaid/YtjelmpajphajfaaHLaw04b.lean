/- A text over joined ones: Law04b. -/
import Derived.SizedLaws
import Derived.Test.YtjelmpajphajfaaH1
import Derived.Test.YtjelmpajphajfaaH2
import Derived.Test.YtjelmpajphajfaaH3
import Derived.Test.YtjelmpajphajfaaH4
import Derived.Test.YtjelmpajphajfaaH5
import Derived.Test.YtjelmpajphajfaaH6
import Derived.Test.YtjelmpajphajfaaH7
/- The statements of layer 4: as many < as tags. -/
namespace Go.Proofs.Ytjelmpajphajfaa
open Go.RowKit Go.ChangeShapes Go.WideShapes

section
variable {H : Type} {enc : TypeId × Value → H} {w : World} {base : Nat} {spare : Nat → Bool} {held : Bool}
theorem weights_all {P : Program} {e : TypeId} {d : DataW H} {n : Nat} : ∀ (l : List (DataW H)), d ∈ l → n ∈ d.weights P e → n ∈ DataW.weightsAll P e l
  | [], h, _ => by cases h
  | x :: r, h, hn => by
    rw [DataW.weightsAll, List.mem_append]
    rcases List.mem_cons.1 h with rfl | h
    · exact .inl hn
    · exact .inr (weights_all r h hn)
theorem weights_slice {P : Program} {t e : TypeId} (hu : P.underlying t = some (.slice e)) {elems more : List (DataW H)} {d : DataW H} {n : Nat} (hd : d ∈ elems) (hn : n ∈ d.weights P e) : n ∈ DataW.weights P t (.slice elems more) := by
  simp only [DataW.weights, hu]
  exact List.mem_cons_of_mem _ (List.mem_append_left _ (weights_all _ hd hn))
theorem weights_text {P : Program} {t : TypeId} (s : ByteArray) : s.size ∈ DataW.weights P t (.lit (.string s.data.toList) : DataW H) := by
  simp only [DataW.weights]
  exact List.mem_singleton.2 rfl
/-- A list of texts, each within the reach. -/
theorem open_textsR {fuel : Nat} {cs : List Value} {x : DataW H × List MemPlace} (h : DataW.trod enc Try.prog w base spare held fuel 36 cs = some x) (hw : ∀ n ∈ x.1.weights Try.prog 36, n ≤ reachBytes) :
    ∃ (v : Value) (L : List ByteArray), cs = [v] ∧ Row (fun b => b < w.heap.size) w 1 v L.length (L.flatMap fun s => [.string s]) ∧ ∀ s ∈ L, s.size ≤ reachBytes := by
  have hC : Try.prog.cellsOf 9 = 1 := cell1 9 (Or.inl rfl)
  have hf : ∀ s : ByteArray, ([Value.string s] : List Value).length = 1 := fun _ => rfl
  rcases DataW.trod_slice Try.underlying36 h with ⟨rfl, _⟩ | ⟨a, len, cap, elems, rest, n, hn, rfl, hx, _, hl, hm, hlen, hel, _, _⟩
  · exact ⟨_, [], rfl, Row.nil _ _ _, fun b hb => by cases hb⟩
  · have key : ∀ i, i < len → ∃ s : ByteArray, s.size ≤ reachBytes ∧ w.cells? base (a.add (i * 1)) 1 = some [.string s] := by
      intro i hi
      have h1 := hel i hi
      rw [List.getElem?_eq_getElem (by omega), hC] at h1
      obtain ⟨cs', h2, h3⟩ := Option.bind_eq_some_iff.1 h1
      obtain ⟨s, rfl, e, _⟩ := DataW.trod_string Try.underlying9 h3
      refine ⟨s, hw _ ?_, h2⟩
      rw [hx]
      exact weights_slice Try.underlying36 (List.mem_map_of_mem (List.getElem_mem (show i < elems.length by omega))) (by rw [e]; exact weights_text s)
    obtain ⟨L, hL, hp⟩ := exists_list len key
    unfold maxLen at hm
    refine ⟨_, L, rfl, ⟨flat_len (fun s : ByteArray => [Value.string s]) 1 hf L, some a, cap, by rw [hL], by omega, by omega, (fun h => by cases h), fun hpos => ?_⟩, fun b hb => ?_⟩
    · have h0 := (hp 0 hpos).2
      rw [Nat.zero_mul] at h0
      have ha0 : a.add 0 = a := by unfold Addr.add; simp
      rw [ha0] at h0
      obtain ⟨b, off, rfl, hbl, _⟩ := cells_cell h0 (by omega)
      refine ⟨b, off, rfl, hbl, fun j u hu => ?_⟩
      obtain ⟨i, r, hi, rfl, hr, h3⟩ := flat_get (fun s : ByteArray => [Value.string s]) 1 hf (by omega) L j u hu
      have h4 := (hp i hi).2
      rw [add_plain'] at h4
      obtain ⟨b', off', h5, _, h6⟩ := cells_cell h4 (by omega)
      cases h5
      rw [← Nat.add_assoc]
      exact h6 r u h3
    · obtain ⟨i, hi, rfl⟩ := List.mem_iff_getElem.1 hb
      exact (hp i hi).1
end

def bareNd (s : ByteArray) : Nd := .mk 1 ⟨#[98]⟩ [⟨⟨#[105, 100]⟩, s⟩] ⟨#[]⟩ [.mk 2 ⟨#[]⟩ [] (s ++ ⟨#[120]⟩) []]
theorem bareNd_ish (s : ByteArray) : M4.bareish (bareNd s) := by
  refine ⟨rfl, rfl, fun a ha => ?_, fun y hy => ?_⟩
  · have : a = ⟨⟨#[105, 100]⟩, s⟩ := by simpa [bareNd, Nd.attrs] using ha
    subst this; rfl
  · have : y = .mk 2 ⟨#[]⟩ [] (s ++ ⟨#[120]⟩) [] := by simpa [bareNd, Nd.kids] using hy
    subst this; rfl
theorem bareNd_sz (l : List ByteArray) (h : ∀ s ∈ l, s.size ≤ reachBytes) : SzN (l.map bareNd) := by
  induction l with
  | nil => rw [List.map_nil, SzN]; trivial
  | cons s r ih =>
    have hs : s.size ≤ 140737488351232 := h s (by simp)
    have hx : (s ++ ⟨#[120]⟩ : ByteArray).size = s.size + 1 := by simp; rfl
    rw [List.map_cons]
    refine szN_cons.2 ⟨⟨by show (⟨#[98]⟩ : ByteArray).size ≤ _; decide, by show (⟨#[]⟩ : ByteArray).size ≤ _; decide, fun a ha => ?_⟩, szN_cons.2 ⟨⟨by show (⟨#[]⟩ : ByteArray).size ≤ _; decide, by show (s ++ ⟨#[120]⟩ : ByteArray).size ≤ _; omega, fun a ha => nomatch (show a ∈ ([] : List Att) from ha)⟩, by show SzN []; rw [SzN]; trivial, by rw [SzN]; trivial⟩, ih (fun t ht => h t (by simp [ht]))⟩
    have : a = ⟨⟨#[105, 100]⟩, s⟩ := by simpa [bareNd, Nd.attrs] using ha
    subst this
    exact ⟨by show (⟨#[105, 100]⟩ : ByteArray).size ≤ _; decide, by show s.size ≤ _; omega⟩

/-- What holds in the region that makes an element, whichever operations stand behind. -/
def BareI (wr : World) (u : Value) (s sx : ByteArray) (Fin : Value → World → Prop) (f : Nat → Bool) (t : Nat → Value) (W : World) : Prop :=
  (f 16 = false → Below wr.heap.size wr W) ∧ (f 17 = false → t 17 = u) ∧ (f 17 = true → f 0 = true ∧ f 16 = true ∧ t 17 = t 16) ∧
  (f 6 = true → ∃ g, t 6 = .slice (some ⟨g, 0, none⟩) 1 1 ∧ wr.heap.size ≤ g ∧ (f 16 = false → Box W g 44 [.string ⟨#[105, 100]⟩, .string s])) ∧
  (f 13 = true → ∃ g, t 13 = .slice (some ⟨g, 0, none⟩) 1 1 ∧ wr.heap.size ≤ g ∧ (f 16 = false → Box W g 28 [.int .i64 2, .string ⟨#[]⟩, .slice none 0 0, .string sx, .slice none 0 0])) ∧
  (f 14 = true → f 6 = true ∧ f 13 = true ∧ t 14 = .agg #[.int .i64 1, .string ⟨#[98]⟩, t 6, .string ⟨#[]⟩, t 13]) ∧
  (f 15 = true → f 6 = true ∧ f 13 = true ∧ ∃ g, t 15 = .slice (some ⟨g, 0, none⟩) 1 1 ∧ wr.heap.size ≤ g ∧ (f 16 = false → Box W g 28 [.int .i64 1, .string ⟨#[98]⟩, t 6, .string ⟨#[]⟩, t 13])) ∧
  (f 16 = true → f 15 = true ∧ Fin (t 16) W)
section
variable {wr W : World} {u : Value} {s sx : ByteArray} {Fin : Value → World → Prop} {f : Nat → Bool} {t : Nat → Value}
theorem BareI.start (wr : World) (u : Value) (s sx : ByteArray) (Fin : Value → World → Prop) (t : Nat → Value) (h : t 17 = u) : BareI wr u s sx Fin (fun i => decide (18 ≤ i)) t wr.drew :=
  ⟨fun _ => (Below.refl _ wr).drew, fun _ => h, fun h => by simp at h, fun h => by simp at h, fun h => by simp at h, fun h => by simp at h, fun h => by simp at h, fun h => by simp at h⟩
theorem BareI.same (h : BareI wr u s sx Fin f t W) (i : Nat) (v : Value) (h1 : i ≠ 6) (h2 : i ≠ 13) (h3 : i ≠ 14) (h4 : i ≠ 15) (h5 : i ≠ 16) (h6 : i ≠ 17) : BareI wr u s sx Fin (updF f i) (updT t i v) W := by
  unfold BareI at *
  rw [updF_ne f (Ne.symm h1), updF_ne f (Ne.symm h2), updF_ne f (Ne.symm h3), updF_ne f (Ne.symm h4), updF_ne f (Ne.symm h5), updF_ne f (Ne.symm h6), updT_ne t v (Ne.symm h1), updT_ne t v (Ne.symm h2), updT_ne t v (Ne.symm h3), updT_ne t v (Ne.symm h4), updT_ne t v (Ne.symm h5), updT_ne t v (Ne.symm h6)]
  obtain ⟨a1, a2, a3, a4⟩ := h
  refine ⟨a1, a2, fun h => ⟨?_, (a3 h).2⟩, a4⟩
  by_cases e : 0 = i
  · subst e; simp
  · rw [updF_ne f e]; exact (a3 h).1
theorem BareI.before (h : BareI wr u s sx Fin f t W) : (f 6 = false → f 16 = false) ∧ (f 13 = false → f 16 = false) ∧ (f 15 = false → f 16 = false) ∧ (f 0 = false → f 17 = false) ∧ (f 16 = false → f 17 = false) ∧ (f 6 = false → f 14 = false ∧ f 15 = false) ∧ (f 13 = false → f 14 = false ∧ f 15 = false) := by
  obtain ⟨a1, a2, a3, a4, a5, a6, a7, a8⟩ := h
  have x16 : f 16 = true → f 15 = true := fun h => (a8 h).1
  have x15 : f 15 = true → f 6 = true ∧ f 13 = true := fun h => ⟨(a7 h).1, (a7 h).2.1⟩
  have x14 : f 14 = true → f 6 = true ∧ f 13 = true := fun h => ⟨(a6 h).1, (a6 h).2.1⟩
  have x17 : f 17 = true → f 0 = true ∧ f 16 = true := fun h => ⟨(a3 h).1, (a3 h).2.1⟩
  clear a1 a2 a3 a4 a5 a6 a7 a8
  revert x16 x15 x14 x17
  generalize f 6 = p6
  generalize f 13 = p13
  generalize f 14 = p14
  generalize f 15 = p15
  generalize f 16 = p16
  generalize f 17 = p17
  generalize f 0 = p0
  cases p6 <;> cases p13 <;> cases p14 <;> cases p15 <;> cases p16 <;> cases p17 <;> cases p0 <;> simp
theorem BareI.atts (h : BareI wr u s sx Fin f t W) (hf : f 6 = false) : BareI wr u s sx Fin (updF f 6) (updT t 6 (.slice (some ⟨W.heap.size, 0, none⟩) 1 1)) (W.alloc (.cells #[.string ⟨#[105, 100]⟩, .string s] 44)) := by
  obtain ⟨b1, b2, b3, b4, b5, b6, b7⟩ := h.before
  have h16 := b1 hf
  have h17 := b5 h16
  obtain ⟨h14, h15⟩ := b6 hf
  obtain ⟨a1, a2, a3, a4, a5, a6, a7, a8⟩ := h
  have hB := a1 h16
  unfold BareI
  rw [updF_ne f (show 13 ≠ 6 by omega), updF_ne f (show 14 ≠ 6 by omega), updF_ne f (show 15 ≠ 6 by omega), updF_ne f (show 16 ≠ 6 by omega), updF_ne f (show 17 ≠ 6 by omega), updT_ne t _ (show 13 ≠ 6 by omega), updT_ne t _ (show 14 ≠ 6 by omega), updT_ne t _ (show 15 ≠ 6 by omega), updT_ne t _ (show 16 ≠ 6 by omega), updT_ne t _ (show 17 ≠ 6 by omega), updT_same, h14, h15, h16, h17]
  refine ⟨fun _ => hB.alloc hB.size _, fun _ => a2 h17, (fun h => nomatch h), fun _ => ⟨_, rfl, hB.size, fun _ => Box.new W 44 [.string ⟨#[105, 100]⟩, .string s]⟩, fun h => ?_, (fun h => nomatch h), (fun h => nomatch h), (fun h => nomatch h)⟩
  obtain ⟨g, e1, e2, e3⟩ := a5 h
  exact ⟨g, e1, e2, fun _ => (e3 h16).alloc _⟩
theorem BareI.kids (h : BareI wr u s sx Fin f t W) (hf : f 13 = false) : BareI wr u s sx Fin (updF f 13) (updT t 13 (.slice (some ⟨W.heap.size, 0, none⟩) 1 1)) (W.alloc (.cells #[.int .i64 2, .string ⟨#[]⟩, .slice none 0 0, .string sx, .slice none 0 0] 28)) := by
  obtain ⟨b1, b2, b3, b4, b5, b6, b7⟩ := h.before
  have h16 := b2 hf
  have h17 := b5 h16
  obtain ⟨h14, h15⟩ := b7 hf
  obtain ⟨a1, a2, a3, a4, a5, a6, a7, a8⟩ := h
  have hB := a1 h16
  unfold BareI
  rw [updF_ne f (show 6 ≠ 13 by omega), updF_ne f (show 14 ≠ 13 by omega), updF_ne f (show 15 ≠ 13 by omega), updF_ne f (show 16 ≠ 13 by omega), updF_ne f (show 17 ≠ 13 by omega), updT_ne t _ (show 6 ≠ 13 by omega), updT_ne t _ (show 14 ≠ 13 by omega), updT_ne t _ (show 15 ≠ 13 by omega), updT_ne t _ (show 16 ≠ 13 by omega), updT_ne t _ (show 17 ≠ 13 by omega), updT_same, h14, h15, h16, h17]
  refine ⟨fun _ => hB.alloc hB.size _, fun _ => a2 h17, (fun h => nomatch h), fun h => ?_, fun _ => ⟨_, rfl, hB.size, fun _ => Box.new W 28 [.int .i64 2, .string ⟨#[]⟩, .slice none 0 0, .string sx, .slice none 0 0]⟩, (fun h => nomatch h), (fun h => nomatch h), (fun h => nomatch h)⟩
  obtain ⟨g, e1, e2, e3⟩ := a4 h
  exact ⟨g, e1, e2, fun _ => (e3 h16).alloc _⟩
end
section
variable {wr W : World} {u : Value} {s sx : ByteArray} {Fin : Value → World → Prop} {f : Nat → Bool} {t : Nat → Value}
theorem BareI.node (h : BareI wr u s sx Fin f t W) (h6 : f 6 = true) (h13 : f 13 = true) : BareI wr u s sx Fin (updF f 14) (updT t 14 (.agg #[.int .i64 1, .string ⟨#[98]⟩, t 6, .string ⟨#[]⟩, t 13])) W := by
  obtain ⟨a1, a2, a3, a4, a5, a6, a7, a8⟩ := h
  unfold BareI
  rw [updF_ne f (show 0 ≠ 14 by omega), updF_ne f (show 6 ≠ 14 by omega), updF_ne f (show 13 ≠ 14 by omega), updF_ne f (show 15 ≠ 14 by omega), updF_ne f (show 16 ≠ 14 by omega), updF_ne f (show 17 ≠ 14 by omega), updT_ne t _ (show 6 ≠ 14 by omega), updT_ne t _ (show 13 ≠ 14 by omega), updT_ne t _ (show 15 ≠ 14 by omega), updT_ne t _ (show 16 ≠ 14 by omega), updT_ne t _ (show 17 ≠ 14 by omega), updT_same]
  exact ⟨a1, a2, a3, a4, a5, fun _ => ⟨h6, h13, rfl⟩, a7, a8⟩
theorem BareI.row (h : BareI wr u s sx Fin f t W) (hf : f 15 = false) (h6 : f 6 = true) (h13 : f 13 = true) : BareI wr u s sx Fin (updF f 15) (updT t 15 (.slice (some ⟨W.heap.size, 0, none⟩) 1 1)) (W.alloc (.cells #[.int .i64 1, .string ⟨#[98]⟩, t 6, .string ⟨#[]⟩, t 13] 28)) := by
  obtain ⟨b1, b2, b3, b4, b5, b6, b7⟩ := h.before
  have h16 := b3 hf
  have h17 := b5 h16
  obtain ⟨a1, a2, a3, a4, a5, a6, a7, a8⟩ := h
  have hB := a1 h16
  unfold BareI
  rw [updF_ne f (show 6 ≠ 15 by omega), updF_ne f (show 13 ≠ 15 by omega), updF_ne f (show 14 ≠ 15 by omega), updF_ne f (show 16 ≠ 15 by omega), updF_ne f (show 17 ≠ 15 by omega), updT_ne t _ (show 6 ≠ 15 by omega), updT_ne t _ (show 13 ≠ 15 by omega), updT_ne t _ (show 14 ≠ 15 by omega), updT_ne t _ (show 16 ≠ 15 by omega), updT_ne t _ (show 17 ≠ 15 by omega), updT_same, h16, h17]
  refine ⟨fun _ => hB.alloc hB.size _, fun _ => a2 h17, (fun h => nomatch h), fun h => ?_, fun h => ?_, a6, fun _ => ⟨h6, h13, _, rfl, hB.size, fun _ => Box.new W 28 [.int .i64 1, .string ⟨#[98]⟩, t 6, .string ⟨#[]⟩, t 13]⟩, (fun h => nomatch h)⟩
  · obtain ⟨g, e1, e2, e3⟩ := a4 h
    exact ⟨g, e1, e2, fun _ => (e3 h16).alloc _⟩
  · obtain ⟨g, e1, e2, e3⟩ := a5 h
    exact ⟨g, e1, e2, fun _ => (e3 h16).alloc _⟩
theorem BareI.app {W' : World} {v : Value} (h : BareI wr u s sx Fin f t W) (hf : f 16 = false) (h15 : f 15 = true) (hFin : Fin v W') : BareI wr u s sx Fin (updF f 16) (updT t 16 v) W' := by
  obtain ⟨b1, b2, b3, b4, b5, b6, b7⟩ := h.before
  have h17 := b5 hf
  obtain ⟨a1, a2, a3, a4, a5, a6, a7, a8⟩ := h
  unfold BareI
  rw [updF_ne f (show 6 ≠ 16 by omega), updF_ne f (show 13 ≠ 16 by omega), updF_ne f (show 14 ≠ 16 by omega), updF_ne f (show 15 ≠ 16 by omega), updF_ne f (show 17 ≠ 16 by omega), updT_ne t _ (show 6 ≠ 16 by omega), updT_ne t _ (show 13 ≠ 16 by omega), updT_ne t _ (show 14 ≠ 16 by omega), updT_ne t _ (show 15 ≠ 16 by omega), updT_ne t _ (show 17 ≠ 16 by omega), updT_same, updF_same, h17]
  refine ⟨(fun h => nomatch h), fun _ => a2 h17, (fun h => nomatch h), fun h => ?_, fun h => ?_, a6, fun h => ?_, fun _ => ⟨h15, hFin⟩⟩
  · obtain ⟨g, e1, e2, e3⟩ := a4 h
    exact ⟨g, e1, e2, fun h => nomatch h⟩
  · obtain ⟨g, e1, e2, e3⟩ := a5 h
    exact ⟨g, e1, e2, fun h => nomatch h⟩
  · obtain ⟨e0, e1, g, e2, e3, e4⟩ := a7 h
    exact ⟨e0, e1, g, e2, e3, fun h => nomatch h⟩
theorem BareI.set (h : BareI wr u s sx Fin f t W) (h0 : f 0 = true) (h16 : f 16 = true) : BareI wr u s sx Fin (updF f 17) (updT t 17 (t 16)) W := by
  obtain ⟨a1, a2, a3, a4, a5, a6, a7, a8⟩ := h
  unfold BareI
  rw [updF_ne f (show 0 ≠ 17 by omega), updF_ne f (show 6 ≠ 17 by omega), updF_ne f (show 13 ≠ 17 by omega), updF_ne f (show 14 ≠ 17 by omega), updF_ne f (show 15 ≠ 17 by omega), updF_ne f (show 16 ≠ 17 by omega), updT_ne t _ (show 6 ≠ 17 by omega), updT_ne t _ (show 13 ≠ 17 by omega), updT_ne t _ (show 14 ≠ 17 by omega), updT_ne t _ (show 15 ≠ 17 by omega), updT_ne t _ (show 16 ≠ 17 by omega), updT_same, updF_same]
  exact ⟨a1, (fun h => nomatch h), fun _ => ⟨h0, h16, rfl⟩, a4, a5, a6, a7, a8⟩
end

theorem cntB_le (l : List UInt8) : M4.cntB l ≤ l.length := List.countP_le_length
theorem cntB_take (s : ByteArray) (k : Nat) (h : k < s.size) : M4.cntB (s.data.toList.take (k + 1)) = M4.cntB (s.data.toList.take k) + if s[k] = 60 then 1 else 0 := by
  rw [show s.data.toList.take (k + 1) = s.data.toList.take k ++ [s[k]] from List.take_succ_eq_append_getElem (l := s.data.toList) h, M4.cntB_append]
  congr 1
  unfold M4.cntB
  by_cases e : s[k] = 60 <;> simp [e]
set_option maxHeartbeats 8000000 in
set_option maxRecDepth 100000 in
theorem law04WriteBare (l : List ByteArray) (S : Nat → Prop) (v : Value) (w : World) (hS : ∀ b, S b → b < w.heap.size) (hr : Row S w 1 v l.length (l.flatMap fun s => [.string s])) (hsz : ∀ s ∈ l, s.size ≤ reachBytes) :
    Calls Try.prog 10 #[v] w fun e w' => e = .returned (.bool true) ∧ Below w.heap.size w w' := by
  obtain ⟨a, cap, rfl⟩ := hr.slice
  obtain ⟨_, hlc, hcm⟩ := hr.len
  replace hsz := Lib.hid hsz
  go_enter Try.func10, Try.ntmps10
  go_wp2_with fail
  go_loopw [3, 4] (fun u3 u4 wr => ∃ i : Nat, i ≤ l.length ∧ i ≤ 6 ∧ u4 = .int .i64 (i : Int) ∧ Made wr w.heap.size u3 ((l.take i).map bareNd) ∧ Below w.heap.size w wr) (fun _ u4 _ => 6 - (intOf u4).toNat)
  case atStart => exact ⟨0, by omega, by omega, rfl, ⟨[], by rw [List.take_zero]; exact World.ownsRow_nil _ _ _ _, by rw [List.take_zero]; exact RepC.nil _ _⟩, Below.refl _ _⟩
  case round =>
    obtain ⟨i, hi, hi6, rfl, hM, hb⟩ := hrel
    have hz := hb.size
    by_cases hlt : i < l.length ∧ i < 6
    · obtain ⟨hlt1, hlt2⟩ := hlt
      obtain ⟨b, off, rfl, hSb, c0⟩ := (hr.below hS hb).atS i hlt1
      have hbl := hS b hSb
      have hsi : l[i].size ≤ 140737488351232 := hsz.out _ (List.getElem_mem hlt1)
      have htk : Hid ((l.take (i + 1)).map bareNd = (l.take i).map bareNd ++ [bareNd l[i]]) := by show _ = _; rw [List.take_succ_eq_append_getElem hlt1, List.map_append]; rfl
      generalize l[i] = s at *
      have hAl : ((l.take i).map bareNd).length = i := by rw [List.length_map, List.length_take]; omega
      generalize (l.take i).map bareNd = A at *
      obtain ⟨zs, hown, hrep⟩ := hM
      obtain ⟨a3, c3, rfl⟩ := own_slice hown
      have hI0 : (i : Int) < (l.length : Int) := by omega
      have hI1 : (0 : Int) ≤ (i : Int) := by omega
      have h29 : ¬ (9223372036854775807 < s.size + 1) := by omega
      have hd6 : decide ((i : Int) < 6) = true := decide_eq_true (by omega)
      have hAl6 : A.length ≤ 6 := by omega
      replace hAl := Lib.hid hAl
      replace hown := Lib.hid hown
      replace hrep := Lib.hid hrep
      go_wp2_with fail
      obtain ⟨j0n, hn0, hn00, hn01, hn02⟩ := info_parts infoN
      have cw : w.cell? ⟨b, off + i, none⟩ = some (.string s) := (hb.cell (p := ⟨b, off + i, none⟩) hbl).symm.trans c0
      let Fin : Value → World → Prop := fun v W => (∃ g cp, v = .slice (some ⟨g, 0, none⟩) (A.length + 1) cp) ∧ Made W w.heap.size v (A ++ [bareNd s]) ∧ Below w.heap.size w W
      refine wp_region_known (n := 18) ([some (.slice a3 A.length c3), some (Value.slice (some ⟨b, off, none⟩) l.length cap), some (Value.int IntKind.i64 (i : Int)), some (.pointer (some ⟨b, off + i, none⟩)), some (.string s), some (.agg #[.string ⟨#[105, 100]⟩, .string s]), none, some (Value.slice (some ⟨b, off, none⟩) l.length cap), some (Value.int IntKind.i64 (i : Int)), some (.pointer (some ⟨b, off + i, none⟩)), some (.string s), some (.string (s ++ ⟨#[120]⟩)), some (.agg #[.int .i64 2, .string ⟨#[]⟩, .slice none 0 0, .string (s ++ ⟨#[120]⟩), .slice none 0 0]), none, none, none, none, none] : List (Option Value)) (fun t => ⟨#[Value.slice (some ⟨b, off, none⟩) l.length cap, undef, Value.bool false, t 17, Value.int IntKind.i64 (i : Int), undef, undef, undef, Value.int IntKind.i64 (i : Int), Value.slice (some ⟨b, off, none⟩) l.length cap, Value.int IntKind.i64 (l.length : Int), Value.bool true, Value.bool true, Value.int IntKind.i64 (i : Int), Value.bool true, Value.bool true, u16, u17, t 0, t 1, t 2, t 3, t 4, t 5, t 6, t 7, t 8, t 9, t 10, t 11, t 12, t 13, t 14, t 15, t 16, undef, undef, undef, undef, undef, undef, undef, undef, undef, undef, undef, undef, undef, undef, undef, undef, undef, undef, undef, undef, undef, undef, undef, undef], []⟩) (fun f t W => BareI wr (.slice a3 A.length c3) s (s ++ ⟨#[120]⟩) Fin f t W) (fun j => match j with | 0 => u18 | 1 => u19 | 2 => u20 | 3 => u21 | 4 => u22 | 5 => u23 | 6 => u24 | 7 => u25 | 8 => u26 | 9 => u27 | 10 => u28 | 11 => u29 | 12 => u30 | 13 => u31 | 14 => u32 | 15 => u33 | 16 => u34 | 17 => Value.slice a3 A.length c3 | _ => undef) (by kernel_rfl) (by rfl) (by rfl) (by kernel_rfl) rfl ?i0 ?step ?fin
      case i0 =>
        exact BareI.start _ _ _ _ _ _ rfl
      case step =>
        intro j0 hj0 f t W hfi hwt hk2 hI
        obtain ⟨y6, y13, y15, y0, y16, y14, y14b⟩ := hI.before
        have sc : W.cell? ⟨b, off + i, none⟩ = some (.string s) := by
          cases h16 : f 16
          · exact cell_of_below (hI.1 h16) c0 (by omega)
          · exact cell_of_below (hI.2.2.2.2.2.2.2 h16).2.2.2 cw (by omega)
        obtain rfl | rfl | rfl | rfl | rfl | rfl | rfl | rfl | rfl | rfl | rfl | rfl | rfl | rfl | rfl | rfl | rfl | rfl : j0 = 0 ∨ j0 = 1 ∨ j0 = 2 ∨ j0 = 3 ∨ j0 = 4 ∨ j0 = 5 ∨ j0 = 6 ∨ j0 = 7 ∨ j0 = 8 ∨ j0 = 9 ∨ j0 = 10 ∨ j0 = 11 ∨ j0 = 12 ∨ j0 = 13 ∨ j0 = 14 ∨ j0 = 15 ∨ j0 = 16 ∨ j0 = 17 := by omega
        · -- operation 0
          have f17 := y0 hfi
          have e17 := hI.2.1 f17
          clear y6 y13 y15 y0 y16 y14 y14b
          replace hk2 := Lib.hid hk2
          replace hI := Lib.hid hI
          clear hwt
          refine wpOp_step rfl (fun K hK => ?_)
          go_simp
          exact hK _ _ ⟨_, by simp [updT, e17], hk2.out.at_ rfl, hI.out.same _ _ (by omega) (by omega) (by omega) (by omega) (by omega) (by omega)⟩
        · -- operation 1
          clear y6 y13 y15 y0 y16 y14 y14b
          replace hI := Lib.hid hI
          replace hk2 := Lib.hid hk2
          clear hwt
          refine wpOp_step rfl (fun K hK => ?_)
          go_simp
          exact hK _ _ ⟨_, by simp [updT], hk2.out.at_ rfl, hI.out.same _ _ (by omega) (by omega) (by omega) (by omega) (by omega) (by omega)⟩
        · -- operation 2
          clear y6 y13 y15 y0 y16 y14 y14b
          replace hI := Lib.hid hI
          replace hk2 := Lib.hid hk2
          clear hwt
          refine wpOp_step rfl (fun K hK => ?_)
          go_simp
          exact hK _ _ ⟨_, by simp [updT], hk2.out.at_ rfl, hI.out.same _ _ (by omega) (by omega) (by omega) (by omega) (by omega) (by omega)⟩
        · -- operation 3
          have e1 : t 1 = Value.slice (some ⟨b, off, none⟩) l.length cap := hk2 1 _ (hwt 1 (by kernel_rfl)) rfl
          have e2 : t 2 = Value.int IntKind.i64 (i : Int) := hk2 2 _ (hwt 2 (by kernel_rfl)) rfl
          clear y6 y13 y15 y0 y16 y14 y14b
          replace hI := Lib.hid hI
          replace hk2 := Lib.hid hk2
          clear hwt
          refine wpOp_step rfl (fun K hK => ?_)
          go_simp
          exact hK _ _ ⟨_, by simp [updT, e1, e2], hk2.out.at_ rfl, hI.out.same _ _ (by omega) (by omega) (by omega) (by omega) (by omega) (by omega)⟩
        · -- operation 4
          have e3 : t 3 = .pointer (some ⟨b, off + i, none⟩) := hk2 3 _ (hwt 3 (by kernel_rfl)) rfl
          clear y6 y13 y15 y0 y16 y14 y14b
          replace hI := Lib.hid hI
          replace hk2 := Lib.hid hk2
          clear hwt
          refine wpOp_step rfl (fun K hK => ?_)
          go_simp
          exact hK _ _ ⟨_, by simp [updT, e3], hk2.out.at_ rfl, hI.out.same _ _ (by omega) (by omega) (by omega) (by omega) (by omega) (by omega)⟩
        · -- operation 5
          have e4 : t 4 = .string s := hk2 4 _ (hwt 4 (by kernel_rfl)) rfl
          clear y6 y13 y15 y0 y16 y14 y14b
          replace hI := Lib.hid hI
          replace hk2 := Lib.hid hk2
          clear hwt
          refine wpOp_step rfl (fun K hK => ?_)
          go_simp
          exact hK _ _ ⟨_, by simp [updT, e4], hk2.out.at_ rfl, hI.out.same _ _ (by omega) (by omega) (by omega) (by omega) (by omega) (by omega)⟩
        · -- operation 6
          have e5 : t 5 = .agg #[.string ⟨#[105, 100]⟩, .string s] := hk2 5 _ (hwt 5 (by kernel_rfl)) rfl
          have hn := Lib.hid (hI.atts hfi)
          clear y6 y13 y15 y0 y16 y14 y14b
          replace hk2 := Lib.hid hk2
          replace hI := Lib.hid hI
          clear hwt
          refine wpOp_step rfl (fun K hK => ?_)
          go_simp
          exact hK _ _ ⟨_, by simp [updT, e5], hk2.out.free rfl, hn.out⟩
        · -- operation 7
          clear y6 y13 y15 y0 y16 y14 y14b
          replace hI := Lib.hid hI
          replace hk2 := Lib.hid hk2
          clear hwt
          refine wpOp_step rfl (fun K hK => ?_)
          go_simp
          exact hK _ _ ⟨_, by simp [updT], hk2.out.at_ rfl, hI.out.same _ _ (by omega) (by omega) (by omega) (by omega) (by omega) (by omega)⟩
        · -- operation 8
          clear y6 y13 y15 y0 y16 y14 y14b
          replace hI := Lib.hid hI
          replace hk2 := Lib.hid hk2
          clear hwt
          refine wpOp_step rfl (fun K hK => ?_)
          go_simp
          exact hK _ _ ⟨_, by simp [updT], hk2.out.at_ rfl, hI.out.same _ _ (by omega) (by omega) (by omega) (by omega) (by omega) (by omega)⟩
        · -- operation 9
          have e7 : t 7 = Value.slice (some ⟨b, off, none⟩) l.length cap := hk2 7 _ (hwt 7 (by kernel_rfl)) rfl
          have e8 : t 8 = Value.int IntKind.i64 (i : Int) := hk2 8 _ (hwt 8 (by kernel_rfl)) rfl
          clear y6 y13 y15 y0 y16 y14 y14b
          replace hI := Lib.hid hI
          replace hk2 := Lib.hid hk2
          clear hwt
          refine wpOp_step rfl (fun K hK => ?_)
          go_simp
          exact hK _ _ ⟨_, by simp [updT, e7, e8], hk2.out.at_ rfl, hI.out.same _ _ (by omega) (by omega) (by omega) (by omega) (by omega) (by omega)⟩
        · -- operation 10
          have e9 : t 9 = .pointer (some ⟨b, off + i, none⟩) := hk2 9 _ (hwt 9 (by kernel_rfl)) rfl
          clear y6 y13 y15 y0 y16 y14 y14b
          replace hI := Lib.hid hI
          replace hk2 := Lib.hid hk2
          clear hwt
          refine wpOp_step rfl (fun K hK => ?_)
          go_simp
          exact hK _ _ ⟨_, by simp [updT, e9], hk2.out.at_ rfl, hI.out.same _ _ (by omega) (by omega) (by omega) (by omega) (by omega) (by omega)⟩
        · -- operation 11
          have e10 : t 10 = .string s := hk2 10 _ (hwt 10 (by kernel_rfl)) rfl
          clear y6 y13 y15 y0 y16 y14 y14b
          replace hI := Lib.hid hI
          replace hk2 := Lib.hid hk2
          clear hwt
          refine wpOp_step rfl (fun K hK => ?_)
          go_simp
          exact hK _ _ ⟨_, by simp [updT, e10], hk2.out.at_ rfl, hI.out.same _ _ (by omega) (by omega) (by omega) (by omega) (by omega) (by omega)⟩
        · -- operation 12
          have e11 : t 11 = .string (s ++ ⟨#[120]⟩) := hk2 11 _ (hwt 11 (by kernel_rfl)) rfl
          clear y6 y13 y15 y0 y16 y14 y14b
          replace hI := Lib.hid hI
          replace hk2 := Lib.hid hk2
          clear hwt
          refine wpOp_step rfl (fun K hK => ?_)
          go_simp
          exact hK _ _ ⟨_, by simp [updT, e11], hk2.out.at_ rfl, hI.out.same _ _ (by omega) (by omega) (by omega) (by omega) (by omega) (by omega)⟩
        · -- operation 13
          have e12 : t 12 = .agg #[.int .i64 2, .string ⟨#[]⟩, .slice none 0 0, .string (s ++ ⟨#[120]⟩), .slice none 0 0] := hk2 12 _ (hwt 12 (by kernel_rfl)) rfl
          have hn := Lib.hid (hI.kids hfi)
          clear y6 y13 y15 y0 y16 y14 y14b
          replace hk2 := Lib.hid hk2
          replace hI := Lib.hid hI
          clear hwt
          refine wpOp_step rfl (fun K hK => ?_)
          go_simp
          exact hK _ _ ⟨_, by simp [updT, e12], hk2.out.free rfl, hn.out⟩
        · -- operation 14
          have f6 := hwt 6 (by kernel_rfl)
          have f13 := hwt 13 (by kernel_rfl)
          obtain ⟨g6, e6, _, _⟩ := hI.2.2.2.1 f6
          obtain ⟨g13, e13, _, _⟩ := hI.2.2.2.2.1 f13
          have hn := Lib.hid (hI.node f6 f13)
          clear y6 y13 y15 y0 y16 y14 y14b
          replace hk2 := Lib.hid hk2
          replace hI := Lib.hid hI
          clear hwt
          refine wpOp_step rfl (fun K hK => ?_)
          go_simp
          refine hK _ _ ⟨_, ?_, hk2.out.free rfl, hn.out⟩
          simp [updT, e6, e13]
        · -- operation 15
          obtain ⟨f6, f13, e14⟩ := hI.2.2.2.2.2.1 (hwt 14 (by kernel_rfl))
          obtain ⟨g6, e6, _, _⟩ := hI.2.2.2.1 f6
          obtain ⟨g13, e13, _, _⟩ := hI.2.2.2.2.1 f13
          have hn := hI.row hfi f6 f13
          rw [e6, e13] at hn e14
          replace hn := Lib.hid hn
          clear y6 y13 y15 y0 y16 y14 y14b
          replace hk2 := Lib.hid hk2
          replace hI := Lib.hid hI
          clear hwt
          refine wpOp_step rfl (fun K hK => ?_)
          go_simp
          exact hK _ _ ⟨_, by simp [updT, e6, e13, e14], hk2.out.free rfl, hn.out⟩
        · -- operation 16
          have e0 : t 0 = .slice a3 A.length c3 := hk2 0 _ (hwt 0 (by kernel_rfl)) rfl
          have f15 := hwt 15 (by kernel_rfl)
          obtain ⟨f6, f13, g15, e15, hg15, hx15⟩ := hI.2.2.2.2.2.2.1 f15
          obtain ⟨g6, e6, hg6, hx6⟩ := hI.2.2.2.1 f6
          obtain ⟨g13, e13, hg13, hx13⟩ := hI.2.2.2.2.1 f13
          have hBW := hI.1 hfi
          have hzW := hBW.size
          replace hx6 := hx6 hfi
          replace hx13 := hx13 hfi
          replace hx15 := hx15 hfi
          rw [e6, e13] at hx15
          have hownW := own_below hown.out hBW
          have hrepW : RepC (fun b => w.heap.size ≤ b ∧ b < wr.heap.size ∧ (Value.slice a3 A.length c3).ownBlock ≠ some b) W zs A := RepC.mono (fun b h => h) _ _ (RepC.keep (fun b h => hBW.block b h.2.1) _ _ hrep.out)
          have happ := fun (v : Value) (W' : World) h => hI.app (v := v) (W' := W') hfi f15 h
          clear y6 y13 y15 y0 y16 y14 y14b
          replace hk2 := Lib.hid hk2
          replace hI := Lib.hid hI
          clear hwt
          refine wpOp_step rfl (fun K hK => ?_)
          refine step_append_lies _ rfl _ _ 22 rfl w.heap.size 28 j0n _ 5 88 Try.underlying22 hn0 hn00 hn01 hn02 rfl (by omega) (.slice a3 A.length c3) A.length zs (show t 0 = _ from e0) hownW ⟨g15, 0, none⟩ 1 1 [.int .i64 1, .string ⟨#[98]⟩, .slice (some ⟨g6, 0, none⟩) 1 1, .string ⟨#[]⟩, .slice (some ⟨g13, 0, none⟩) 1 1] (show t 15 = _ from e15) rfl (fun j u hu => by rw [add_plain', Nat.zero_add]; exact hx15.cell hu) (five_one _ _ _ _ _ _ _ _ _) (by omega) (by unfold maxLen; omega) (by omega) (by omega) W.heap.size rfl ?_
          intro gg cp w5 hown5 hgrow hat hlt5
          have hown3 := fun g (h : (Value.slice a3 A.length c3).ownBlock = some g) => (hown.out.lt g h).2
          have hmade : Made w5 w.heap.size (.slice (some ⟨gg, 0, none⟩) (A.length + 1) cp) (A ++ [bareNd s]) := by
            refine Made.snoc (x := bareNd s) (va := .slice (some ⟨g6, 0, none⟩) 1 1) (vk := .slice (some ⟨g13, 0, none⟩) 1 1) (SX := fun b => wr.heap.size ≤ b ∧ b < W.heap.size) rfl hown5 hgrow ?_ hrepW (fun b h => ⟨h.1, by omega, h.2.2⟩) ?_ (fun b h => ⟨by omega, h.2, fun e => by have := hown3 b e; omega⟩)
            · rcases hat with h | h
              · exact .inl h
              · exact .inr (by rw [h]; exact Nat.le_refl _)
            · exact ⟨Row.fresh hx6 ⟨hg6, hx6.lt⟩ rfl (by decide), ⟨_, Row.fresh hx13 ⟨hg13, hx13.lt⟩ rfl (by decide), RepC.cons_iff.2 ⟨_, _, _, rfl, Row.nil _ _ _, RepN.nil _ _, RepC.nil _ _⟩⟩⟩
          have hbF : Below w.heap.size w w5 := (hb.trans (hBW.mono hz)).grown hgrow (by omega) (fun g hg => (hown.out.lt g hg).1)
          exact hK _ _ ⟨_, by simp [Act.put, updT], hk2.out.free rfl, happ _ _ ⟨⟨gg, cp, rfl⟩, hmade, hbF⟩⟩
        · -- operation 17
          have f0 := hwt 0 (by kernel_rfl)
          have f16 := hwt 16 (by kernel_rfl)
          have hn := Lib.hid (hI.set f0 f16)
          clear y6 y13 y15 y0 y16 y14 y14b
          replace hk2 := Lib.hid hk2
          replace hI := Lib.hid hI
          clear hwt
          refine wpOp_step rfl (fun K hK => ?_)
          go_simp
          exact hK _ _ ⟨_, by simp [updT], hk2.out.free rfl, hn.out⟩
      case fin =>
        intro f t W hall hk2 hI
        obtain ⟨_, ⟨g, cp, e16⟩, hM, hB⟩ := hI.2.2.2.2.2.2.2 (hall 16 (by omega))
        have e17 := (hI.2.2.1 (hall 17 (by omega))).2.2
        rw [e16] at hM e17
        clear hk2 hall hI
        dsimp only
        rw [e17]
        replace hM := Lib.hid hM
        go_wp2_with fail
        go_roundw
        case rel => exact ⟨i + 1, by omega, by omega, by go_num, by rw [htk.out]; exact hM.out, hB⟩
        case measure => exact wr_meas hlt2
    · have hsA : SzN ((l.take i).map bareNd) := bareNd_sz _ (fun s hs => hsz.out s (List.mem_of_mem_take hs))
      have hbA : ∀ x ∈ gdN ((l.take i).map bareNd), M4.bareish x := M4.good_bare _ (M4.cut_bare _ 40 (fun y hy => by
        obtain ⟨s, _, rfl⟩ := List.mem_map.1 hy
        exact bareNd_ish s))
      have hG := Lib.hid (ref03Good _ u3 _ wr (fun b (h : _ ∧ _) => h.2) hM.rep hsA)
      obtain ⟨a3, c3, rfl⟩ := hM.rep.slice
      have hgf := gd_fit ((l.take i).map bareNd)
      have hgw := gd_weight ((l.take i).map bareNd)
      have hgt := gd_text false ((l.take i).map bareNd)
      generalize gdN ((l.take i).map bareNd) = L at *
      have hcnt := Lib.hid (M4.bares_count L hbA)
      have hLl := M3.length_le_weight L
      generalize ((l.take i).map bareNd).length = nA at *
      clear hsA hbA hM
      replace hgf := Lib.hid hgf
      have htest : (decide (i < l.length) = false) ∨ (decide (i < l.length) = true ∧ decide ((i : Int) < 6) = false) := by
        by_cases h : i < l.length
        · exact Or.inr ⟨decide_eq_true (by omega), decide_eq_false (by omega)⟩
        · exact Or.inl (decide_eq_false (by omega))
      clear hlt
      rcases htest with htest | ⟨htest, htest2⟩
      all_goals
        go_wp2_with fail
        refine hG.out.mono ?_
        rintro e w2 ⟨v2, rfl, hf2, hb2⟩
        have hT := Lib.hid (show Calls Try.prog 30 #[v2] w2 (StrPost ⟨(M4.textB false L).toArray⟩ w2) from writeTextOf _ v2 L w2 (fun b (h : _ ∧ _) => h.2) hf2.rep hgf.out (by omega))
        obtain ⟨a4, c4, rfl⟩ := hf2.rep.slice
        have hss : (⟨(M4.textB false L).toArray⟩ : ByteArray).size ≤ 1030792151040 := hgt
        have hcn : Hid (M4.cntB (⟨(M4.textB false L).toArray⟩ : ByteArray).data.toList = 2 * L.length) := hcnt.out
        clear hf2 hG
        generalize (⟨(M4.textB false L).toArray⟩ : ByteArray) = sb at *
        go_wp2_with fail
        refine hT.out.mono ?_
        rintro e w3 ⟨rfl, hb3⟩
        have hb03 : Below w.heap.size w w3 := bt (bt hb hb2) hb3
        clear hT hb2 hb3
        go_wp2_with fail
        go_loop [6, 7] (fun u6 u7 => ∃ k : Nat, k ≤ sb.size ∧ u7 = .int .i64 (k : Int) ∧ u6 = .int .i64 (M4.cntB (sb.data.toList.take k) : Int)) (fun _ u7 => sb.size - (intOf u7).toNat)
        case atStart => exact ⟨0, by omega, rfl, by rw [List.take_zero]; rfl⟩
        case round =>
          obtain ⟨k, hk, rfl, rfl⟩ := hrel
          have hcl := cntB_le (sb.data.toList.take k)
          have hcl2 : (sb.data.toList.take k).length ≤ k := List.length_take_le _ _
          by_cases hlt : k < sb.size
          · have hsn := cntB_take sb k hlt
            by_cases h60 : sb[k] = 60
            · rw [if_pos h60] at hsn
              have h60b : ((sb[k].toNat : Int) == 60) = true := by rw [h60]; rfl
              replace hsn := Lib.hid hsn
              replace h60 := Lib.hid h60
              generalize M4.cntB (sb.data.toList.take k) = n0 at *
              go_wp2_with fail
              go_round
              case rel => exact ⟨k + 1, by omega, by go_num, by rw [hsn.out]; go_num⟩
              case measure => exact wr_meas hlt
            · rw [if_neg h60] at hsn
              have h60b : ((sb[k].toNat : Int) == 60) = false := ne_byte (d := 60) h60
              replace hsn := Lib.hid hsn
              clear h60
              generalize M4.cntB (sb.data.toList.take k) = n0 at *
              go_wp2_with fail
              go_round
              case rel => exact ⟨k + 1, by omega, by go_num, by rw [hsn.out]; go_num⟩
              case measure => exact wr_meas hlt
          · obtain rfl : k = sb.size := by omega
            have hend : (M4.cntB (sb.data.toList.take sb.size) : Int) = 2 * (L.length : Int) := by
              rw [List.take_of_length_le (show sb.data.toList.length ≤ sb.size from Nat.le_refl _), hcn.out]
              omega
            rw [hend]
            clear hend hcl hcl2
            go_wp2_with fail
            refine (lives04 _).mono ?_
            rintro e w4 ⟨rfl, hb4⟩
            have hbb := bt hb03 hb4
            go_wp2_with fail
            go_ret
            exact ⟨rfl, hbb⟩
end Go.Proofs.Ytjelmpajphajfaa

