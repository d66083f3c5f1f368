/- Package dom: the texts that nodes begin with. -/
import Derived.Test.YtjelmpajphajfaaDomM
import Derived.Test.YtjelmpajphajfaaRefs2
namespace Go.Proofs.Ytjelmpajphajfaa
open Go.RowKit

/-- The texts of the first k nodes, one behind the other. -/
def catK (l : List Nd) (k : Nat) : List UInt8 := (l.take k).flatMap fun x => x.text.data.toList
theorem catK_zero (l : List Nd) : catK l 0 = [] := by simp [catK]
theorem catK_succ (l : List Nd) (k : Nat) (h : k < l.length) : catK l (k + 1) = catK l k ++ l[k].text.data.toList := by
  unfold catK
  rw [List.take_succ_eq_append_getElem h, List.flatMap_append]
  simp
theorem run_join (l : List Nd) : ∀ k, k ≤ l.length → (∀ i (h : i < l.length), i < k → M3.isText l[i] = true) → (∀ h : k < l.length, M3.isText l[k] = false) → M3.runT l = k ∧ M3.joinT l = ⟨(catK l k).toArray⟩ := by
  induction l with
  | nil => intro k hk _ _; obtain rfl : k = 0 := (by simpa using hk); exact ⟨rfl, rfl⟩
  | cons x r ih =>
    intro k hk h1 h2
    cases k with
    | zero =>
      have hx := h2 (by simp)
      simp only [List.getElem_cons_zero] at hx
      rw [M3.runT_no r hx, M3.joinT_no r hx]
      exact ⟨rfl, rfl⟩
    | succ k =>
      have hx := h1 0 (by simp) (by omega)
      simp only [List.getElem_cons_zero] at hx
      obtain ⟨h3, h4⟩ := ih k (by simpa using hk) (fun i hi hik => by have := h1 (i + 1) (by simpa using hi) (by omega); simpa using this) (fun h => by have := h2 (by simpa using h); simpa using this)
      rw [M3.runT_yes r hx, M3.joinT_yes r hx, h3, h4]
      refine ⟨rfl, ?_⟩
      unfold M3.cat catK
      simp
def txtN (l : List Nd) : Nat := (l.map fun x => x.text.size).sum
theorem txtN_cons (x : Nd) (l : List Nd) : txtN (x :: l) = x.text.size + txtN l := by simp [txtN]
theorem txtN_append (a b : List Nd) : txtN (a ++ b) = txtN a + txtN b := by simp [txtN]
theorem txtN_mem {l : List Nd} {x : Nd} (h : x ∈ l) : x.text.size ≤ txtN l := by
  induction l with
  | nil => cases h
  | cons y r ih =>
    rw [txtN_cons]
    rcases List.mem_cons.1 h with rfl | h
    · omega
    · have := ih h; omega
theorem txtV_map (L : List NV) : txtV L = txtN (L.map NV.x) := by simp [txtV, txtN, Function.comp_def]
theorem catK_len (l : List Nd) (k : Nat) : (catK l k).length ≤ txtN l := by
  have h : ∀ m : List Nd, (m.flatMap fun x => x.text.data.toList).length = txtN m := by
    intro m
    induction m with
    | nil => rfl
    | cons x r ih => rw [List.flatMap_cons, List.length_append, ih, txtN_cons]; rfl
  unfold catK
  rw [h]
  have : txtN l = txtN (l.take k) + txtN (l.drop k) := by rw [← txtN_append, List.take_append_drop]
  omega
def JoinPost (l : List Nd) (w : World) (e : Ending) (w' : World) : Prop := e = .returned (.tuple #[.string (M3.joinT l), .int .i64 (M3.runT l : Int)]) ∧ Below w.heap.size w w'

set_option maxHeartbeats 4000000 in
set_option maxRecDepth 100000 in
theorem domJoined (S : Nat → Prop) (v : Value) (l : List Nd) (w : World) (hS : ∀ b, S b → b < w.heap.size) (hr : RepN S w v l) (hl : l.length ≤ 1000000) (ht : txtN l ≤ 1073741824) :
    Calls Try.prog 53 #[v] w (JoinPost l w) := by
  obtain ⟨a, cap, rfl⟩ := hr.slice
  obtain ⟨_, hlc, hcm⟩ := hr.len
  go_enter Try.func53, Try.ntmps53
  go_wp2_with (fail)
  go_loopw [9] (fun u9 wr => ∃ k : Nat, k ≤ l.length ∧ u9 = .int .i64 k ∧ Hid (∀ i (h : i < l.length), i < k → M3.isText l[i] = true) ∧ Lib.IsBuilderF 79 5 w.heap.size w.heap.size (u8s (catK l k)) wr ∧ Below w.heap.size w wr) (fun u9 _ => l.length - (intOf u9).toNat)
  case atStart => exact ⟨0, by omega, rfl, Lib.hid (fun i _ h => absurd h (by omega)), by rw [catK_zero]; exact Lib.IsBuilderF.of (Lib.fresh_isBuilder 79 5 w), (Below.refl _ w).alloc (Nat.le_refl _) _⟩
  case round =>
    obtain ⟨k, hk, rfl, hall, hI, hb⟩ := hrel
    have hz := hb.size
    have hck := catK_len l k
    by_cases hlt : k < l.length
    · obtain ⟨b, off, va, vk, rfl, hSb, c0, c1, c2, c3, c4, hrv⟩ := (hr.below hS hb).at_ k hlt
      have hcs := catK_succ l k hlt
      have hxt := txtN_mem (List.getElem_mem hlt)
      have hrj := fun (h2 : M3.isText l[k] = false) => run_join l k hk hall.out (fun _ => h2)
      have hnx := fun (h2 : M3.isText l[k] = true) i (h : i < l.length) (hi : i < k + 1) => show M3.isText l[i] = true from if e : i = k then by subst e; exact h2 else hall.out i h (by omega)
      replace hrj := Lib.hid hrj
      replace hnx := Lib.hid hnx
      generalize l[k] = x at *
      obtain ⟨a1, e1, rfl⟩ := hrv.at_.slice
      obtain ⟨a2, e2, rfl⟩ := hrv.kids.slice
      have hbx : Below wr.heap.size wr (wr.alloc (.cells (x.cells (.slice a1 x.attrs.length e1) (.slice a2 x.kids.length e2)).toArray 28)) := (Below.refl _ _).alloc (Nat.le_refl _) _
      have hIx := bldr_below hI hbx
      have hbw := hb.alloc hz (.cells (x.cells (.slice a1 x.attrs.length e1) (.slice a2 x.kids.length e2)).toArray 28)
      have hsz : w.heap.size ≤ (wr.alloc (.cells (x.cells (.slice a1 x.attrs.length e1) (.slice a2 x.kids.length e2)).toArray 28)).heap.size := by simp; omega
      have hBS := Lib.hid (bString w.heap.size w.heap.size _ _ hIx hsz)
      have hWS := Lib.hid (bWriteString w.heap.size w.heap.size (u8s (catK l k)) x.text _ hIx (by rw [u8s_length]; omega) hsz)
      clear hI hIx hck hrv
      replace hcs := Lib.hid hcs
      cases x with | mk kd n ats t ks =>
      simp only [Nd.kind, Nd.name, Nd.text, Nd.attrs, Nd.kids, Nd.cells] at *
      cases hkd : (kd == 2)
      · obtain ⟨q1, q2⟩ := hrj.out hkd
        replace q1 := Lib.hid q1
        replace q2 := Lib.hid q2
        have hkd2 : (kd != 2) = true := by simp [bne, hkd]
        clear hrj hnx hWS hcs
        go_wp2_with (fail)
        refine hBS.out.mono ?_
        rintro e w1 ⟨rfl, _, hb1, _⟩
        go_wp2_with (fail)
        go_ret2
        exact ⟨by rw [q1.out, q2.out]; rfl, hbw.trans hb1⟩
      · have hn2 := Lib.hid (hnx.out hkd)
        have hkd2 : (kd != 2) = false := by simp [bne, hkd]
        clear hrj hnx hBS
        go_wp2_with (fail)
        refine hWS.out.mono ?_
        rintro e w1 ⟨rfl, hI1, hb1, _⟩
        have hI2 : Lib.IsBuilderF 79 5 w.heap.size w.heap.size (u8s (catK l (k + 1))) w1 := by rw [hcs.out, u8s_append]; exact Or.inr hI1
        clear hI1
        go_wp2_with (fail)
        go_roundw
        case rel => exact ⟨k + 1, by omega, by go_num, hn2, hI2, hbw.trans hb1⟩
        case measure => exact meas_nat hlt
    · obtain ⟨q1, q2⟩ := run_join l k hk hall.out (fun h => absurd h hlt)
      obtain rfl : k = l.length := by omega
      replace q1 := Lib.hid q1
      replace q2 := Lib.hid q2
      have hBS := Lib.hid (bString w.heap.size w.heap.size _ _ hI hz)
      clear hI hall
      go_wp2_with (fail)
      refine hBS.out.mono ?_
      rintro e w1 ⟨rfl, _, hb1, _⟩
      go_wp2_with (fail)
      go_ret2
      exact ⟨by rw [q1.out, q2.out]; rfl, hb.trans hb1⟩
end Go.Proofs.Ytjelmpajphajfaa
