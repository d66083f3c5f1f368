/- Texts joined: Open3. -/
import Derived.ChangeArms
import Derived.DataReads
import Derived.ChangeOld
import Derived.Test.YteefodibpjgicaaGreatK12
namespace Go.Proofs.YteefodibpjgicaaGreat
open Go.RowKit Go.ChangeShapes Go.WideShapes
theorem exists_list {α : Type} {p : Nat → α → Prop} (n : Nat) (h : ∀ i, i < n → ∃ a, p i a) : ∃ l : List α, l.length = n ∧ ∀ i (hi : i < l.length), p i l[i] := by
  induction n with
  | zero => exact ⟨[], rfl, fun i hi => by simp at hi⟩
  | succ n ih =>
    obtain ⟨l, hl, hp⟩ := ih (fun i hi => h i (by omega))
    obtain ⟨a, ha⟩ := h n (by omega)
    refine ⟨l ++ [a], by simp [hl], fun i hi => ?_⟩
    rw [List.length_append, List.length_cons, List.length_nil] at hi
    by_cases hin : i < l.length
    · rw [List.getElem_append_left hin]; exact hp i hin
    · rw [List.getElem_append_right (by omega)]
      simp only [List.getElem_singleton]
      rw [show i = n by omega]; exact ha
theorem flat_get {α : Type} (f : α → List Value) (k : Nat) (hf : ∀ x, (f x).length = k) (_ : 0 < k) : ∀ (L : List α) (j : Nat) (u : Value), (L.flatMap f)[j]? = some u → ∃ (i r : Nat) (h : i < L.length), j = i * k + r ∧ r < k ∧ (f L[i])[r]? = some u := by
  intro L
  induction L with
  | nil => intro j u h; simp at h
  | cons x r ih =>
    intro j u h
    rw [List.flatMap_cons] at h
    by_cases hj : j < k
    · rw [List.getElem?_append_left (by rw [hf]; exact hj)] at h
      exact ⟨0, j, by simp, by simp, hj, h⟩
    · rw [List.getElem?_append_right (by rw [hf]; omega), hf] at h
      obtain ⟨i, q, hi, h1, h2, h3⟩ := ih _ _ h
      refine ⟨i + 1, q, by simpa using hi, ?_, h2, by simpa using h3⟩
      rw [Nat.add_mul]; omega
theorem flat_len {α : Type} (f : α → List Value) (k : Nat) (hf : ∀ x, (f x).length = k) (L : List α) : (L.flatMap f).length = L.length * k := by
  induction L with
  | nil => simp
  | cons x r ih => rw [List.flatMap_cons, List.length_append, ih, hf, List.length_cons, Nat.add_mul]; omega
theorem cells_cell {w : World} {base : Nat} {a : Addr} {n : Nat} {cs : List Value} (h : w.cells? base a n = some cs) (hn : 0 < n) : ∃ b off, a = ⟨b, off, none⟩ ∧ b < w.heap.size ∧ ∀ i u, cs[i]? = some u → w.cell? ⟨b, off + i, none⟩ = some u := by
  obtain ⟨_, hl, hc⟩ := World.cells?_some h
  have h0 := hc 0 hn
  rw [List.getElem?_eq_getElem (by omega)] at h0
  obtain ⟨b, off, spot⟩ := a
  have hspot : spot = none := by simpa [Addr.add] using World.cell?_spot h0
  subst hspot
  refine ⟨b, off, rfl, ?_, fun i u hu => ?_⟩
  · have := World.block_lt_of_cell? w _ h0
    rwa [add_plain'] at this
  · have h1 := hc i (by have := (List.getElem?_eq_some_iff.1 hu).1; omega)
    rw [add_plain'] at h1
    rw [h1, hu]
section
variable {H : Type} {enc : TypeId × Value → H} {w : World} {base : Nat} {spare : Nat → Bool} {held : Bool}
theorem open_rows {t e : TypeId} {k fuel : Nat} {cs : List Value} {x : DataW H × List MemPlace} (ht : Tryz.prog.underlying t = some (.slice e)) (hC : Tryz.prog.cellsOf e = k) (hk : 0 < k) (h : DataW.trod enc Tryz.prog w base spare held fuel t cs = some x)
    {α : Type} (f : α → List Value) (hf : ∀ x, (f x).length = k) (q : α → Prop) (hq : ∀ n cs' y, n < fuel → cs'.length = k → DataW.trod enc Tryz.prog w base spare held n e cs' = some y → ∃ b : α, cs' = f b ∧ q b) :
    ∃ (v : Value) (L : List α), cs = [v] ∧ Row (fun b => b < w.heap.size) w k v L.length (L.flatMap f) ∧ ∀ b ∈ L, q b := by
  rcases DataW.trod_slice ht h with ⟨rfl, _⟩ | ⟨a, len, cap, elems, rest, n, hn, rfl, _, _, hl, hm, hlen, hel, _, _⟩
  · exact ⟨_, [], rfl, Row.nil _ _ _, fun b hb => by cases hb⟩
  · have key : ∀ i, i < len → ∃ b : α, q b ∧ w.cells? base (a.add (i * k)) k = some (f b) := by
      intro i hi
      have h1 := hel i hi
      rw [List.getElem?_eq_getElem (by omega), hC] at h1
      obtain ⟨cs', h2, h3⟩ := Option.bind_eq_some_iff.1 h1
      obtain ⟨b, rfl, hb⟩ := hq n cs' _ (by omega) (by have := (World.cells?_some h2).2.1; exact this) h3
      exact ⟨b, hb, h2⟩
    obtain ⟨L, hL, hp⟩ := exists_list len key
    unfold maxLen at hm
    refine ⟨_, L, rfl, ⟨flat_len f k hf L, some a, cap, by rw [hL], by omega, by omega, (fun h => by cases h), fun hpos => ?_⟩, fun b hb => ?_⟩
    · have h0 := (hp 0 hpos).2
      rw [Nat.zero_mul] at h0
      have ha0 : a.add 0 = a := by unfold Addr.add; simp
      rw [ha0] at h0
      obtain ⟨b, off, rfl, hbl, _⟩ := cells_cell h0 hk
      refine ⟨b, off, rfl, hbl, fun j u hu => ?_⟩
      obtain ⟨i, r, hi, rfl, hr, h3⟩ := flat_get f k hf hk L j u hu
      have h4 := (hp i hi).2
      rw [add_plain'] at h4
      obtain ⟨b', off', h5, _, h6⟩ := cells_cell h4 hk
      cases h5
      rw [← Nat.add_assoc]
      exact h6 r u h3
    · obtain ⟨i, hi, rfl⟩ := List.mem_iff_getElem.1 hb
      exact (hp i hi).1
theorem cell1 (t : TypeId) (h : t = 9 ∨ t = 3 ∨ t = 39 ∨ t = 25) : Tryz.prog.cellsOf t = 1 := by
  rcases h with rfl | rfl | rfl | rfl <;> kernel_rfl
theorem open_att {n : Nat} {cs : List Value} {y : DataW H × List MemPlace} (hl : cs.length = 2) (h : DataW.trod enc Tryz.prog w base spare held n 43 cs = some y) :
    ∃ b : Att, cs = [.string b.name, .string b.value] ∧ b.name.size ≤ 9223372036854775807 ∧ b.value.size ≤ 9223372036854775807 := by
  match cs, hl with
  | [c0, c1], _ =>
    obtain ⟨xs, m, _, _, _, hxs, hf⟩ := DataW.trod_struct Tryz.underlying43 h
    have h0 := hf 0 _ rfl
    have h1 := hf 1 _ rfl
    change DataW.trod enc Tryz.prog w base spare held m 9 ((([c0, c1] : List Value).drop 0).take (Tryz.prog.cellsOf 9)) = xs[0]? at h0
    change DataW.trod enc Tryz.prog w base spare held m 9 ((([c0, c1] : List Value).drop 1).take (Tryz.prog.cellsOf 9)) = xs[1]? at h1
    rw [cell1 9 (Or.inl rfl)] at h0 h1
    simp only [List.drop_zero, List.take_succ_cons, List.take_zero, List.drop_succ_cons] at h0 h1
    rw [List.getElem?_eq_getElem (by rw [hxs]; decide)] at h0
    rw [List.getElem?_eq_getElem (by rw [hxs]; decide)] at h1
    obtain ⟨s0, e0, _, z0⟩ := DataW.trod_string Tryz.underlying9 h0
    obtain ⟨s1, e1, _, z1⟩ := DataW.trod_string Tryz.underlying9 h1
    unfold maxLen at z0 z1
    simp only [List.cons.injEq, and_true] at e0 e1
    exact ⟨⟨s0, s1⟩, by rw [e0, e1], by show s0.size ≤ _; omega, by show s1.size ≤ _; omega⟩
theorem open_attrs {fuel : Nat} {cs : List Value} {x : DataW H × List MemPlace} (h : DataW.trod enc Tryz.prog w base spare held fuel 39 cs = some x) :
    ∃ (v : Value) (L : List Att), cs = [v] ∧ Row (fun b => b < w.heap.size) w 2 v L.length (cellsA L) ∧ ∀ b ∈ L, b.name.size ≤ 9223372036854775807 ∧ b.value.size ≤ 9223372036854775807 :=
  open_rows Tryz.underlying39 (by kernel_rfl) (by decide) h (fun a : Att => [.string a.name, .string a.value]) (fun _ => rfl) (fun b : Att => b.name.size ≤ 9223372036854775807 ∧ b.value.size ≤ 9223372036854775807) (fun n cs' y _ hl h => open_att hl h)
theorem open_node {n : Nat} {cs : List Value} {y : DataW H × List MemPlace} (hl : cs.length = 5) (h : DataW.trod enc Tryz.prog w base spare held n 41 cs = some y)
    (ih : ∀ m cs' x, m < n → DataW.trod enc Tryz.prog w base spare held m 25 cs' = some x → ∃ (v : Value) (l : List Nd), cs' = [v] ∧ RepN (fun b => b < w.heap.size) w v l ∧ SzN l) :
    ∃ b : NV, cs = b.x.cells b.va b.vk ∧ RepV (fun b => b < w.heap.size) w b.x b.va b.vk ∧ Sz1 b.x ∧ SzN b.x.kids := by
  match cs, hl with
  | [c0, c1, c2, c3, c4], _ =>
    obtain ⟨xs, m, hm, _, _, hxs, hf⟩ := DataW.trod_struct Tryz.underlying41 h
    have h0 := hf 0 _ rfl
    have h1 := hf 1 _ rfl
    have h2 := hf 2 _ rfl
    have h3 := hf 3 _ rfl
    have h4 := hf 4 _ rfl
    change DataW.trod enc Tryz.prog w base spare held m 3 ((([c0, c1, c2, c3, c4] : List Value).drop 0).take (Tryz.prog.cellsOf 3)) = xs[0]? at h0
    change DataW.trod enc Tryz.prog w base spare held m 9 ((([c0, c1, c2, c3, c4] : List Value).drop 1).take (Tryz.prog.cellsOf 9)) = xs[1]? at h1
    change DataW.trod enc Tryz.prog w base spare held m 39 ((([c0, c1, c2, c3, c4] : List Value).drop 2).take (Tryz.prog.cellsOf 39)) = xs[2]? at h2
    change DataW.trod enc Tryz.prog w base spare held m 9 ((([c0, c1, c2, c3, c4] : List Value).drop 3).take (Tryz.prog.cellsOf 9)) = xs[3]? at h3
    change DataW.trod enc Tryz.prog w base spare held m 25 ((([c0, c1, c2, c3, c4] : List Value).drop 4).take (Tryz.prog.cellsOf 25)) = xs[4]? at h4
    rw [cell1 3 (Or.inr (Or.inl rfl))] at h0
    rw [cell1 9 (Or.inl rfl)] at h1 h3
    rw [cell1 39 (Or.inr (Or.inr (Or.inl rfl)))] at h2
    rw [cell1 25 (Or.inr (Or.inr (Or.inr rfl)))] at h4
    simp only [List.drop_zero, List.take_succ_cons, List.take_zero, List.drop_succ_cons] at h0 h1 h2 h3 h4
    rw [List.getElem?_eq_getElem (by rw [hxs]; decide)] at h0
    rw [List.getElem?_eq_getElem (by rw [hxs]; decide)] at h1
    rw [List.getElem?_eq_getElem (by rw [hxs]; decide)] at h2
    rw [List.getElem?_eq_getElem (by rw [hxs]; decide)] at h3
    rw [List.getElem?_eq_getElem (by rw [hxs]; decide)] at h4
    obtain ⟨k, e0, _, _⟩ := DataW.trod_int Tryz.underlying3 h0
    obtain ⟨s1, e1, _, z1⟩ := DataW.trod_string Tryz.underlying9 h1
    obtain ⟨va, L, e2, r2, z2⟩ := open_attrs h2
    obtain ⟨s3, e3, _, z3⟩ := DataW.trod_string Tryz.underlying9 h3
    obtain ⟨vk, l, e4, r4, z4⟩ := ih m _ _ (by omega) h4
    unfold maxLen at z1 z3
    simp only [List.cons.injEq, and_true] at e0 e1 e2 e3 e4
    exact ⟨⟨.mk k s1 L s3 l, va, vk⟩, by rw [e0, e1, e2, e3, e4]; rfl, ⟨r2, r4⟩, ⟨by show s1.size ≤ _; omega, by show s3.size ≤ _; omega, z2⟩, z4⟩
theorem open_nodes (fuel : Nat) : ∀ (cs : List Value) (x : DataW H × List MemPlace), DataW.trod enc Tryz.prog w base spare held fuel 25 cs = some x →
    ∃ (v : Value) (l : List Nd), cs = [v] ∧ RepN (fun b => b < w.heap.size) w v l ∧ SzN l := by
  induction fuel using Nat.strongRecOn with
  | ind fuel ih =>
    intro cs x h
    obtain ⟨v, L, hv, hr, hq⟩ := open_rows Tryz.underlying25 (by kernel_rfl) (by decide) h (fun b : NV => b.x.cells b.va b.vk) (fun _ => rfl) (fun b => RepV (fun b => b < w.heap.size) w b.x b.va b.vk ∧ Sz1 b.x ∧ SzN b.x.kids)
      (fun n cs' y hn hl h => open_node hl h (fun m cs'' x hm h => ih m (by omega) cs'' x h))
    refine ⟨v, L.map NV.x, hv, ⟨_, by simpa using hr, ?_⟩, ?_⟩
    · clear hr hv h ih
      induction L with
      | nil => exact RepC.nil _ _
      | cons b r ih =>
        rw [List.flatMap_cons, List.map_cons]
        exact RepC.append (m := r.map NV.x) (ih (fun c hc => hq c (by simp [hc]))) [b.x] _ (RepC.single (hq b (by simp)).1)
    · clear hr hv h ih
      induction L with
      | nil => show SzN []; rw [SzN]; trivial
      | cons b r ih =>
        rw [List.map_cons]
        exact szN_cons.2 ⟨(hq b (by simp)).2.1, (hq b (by simp)).2.2, ih (fun c hc => hq c (by simp [hc]))⟩
end
end Go.Proofs.YteefodibpjgicaaGreat
