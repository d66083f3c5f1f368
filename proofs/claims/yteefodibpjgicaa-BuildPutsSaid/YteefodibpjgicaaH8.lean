/- Texts joined: Law07p. -/
import Derived.Test.YteefodibpjgicaaH1
import Derived.Test.YteefodibpjgicaaH2
import Derived.Test.YteefodibpjgicaaH3
import Derived.Test.YteefodibpjgicaaH4
import Derived.Test.YteefodibpjgicaaH5
import Derived.Test.YteefodibpjgicaaH6
import Derived.Test.YteefodibpjgicaaH7
/- Layer 7's statements: BuildPuts. -/
namespace Go.Proofs.Yteefodibpjgicaa
open Go.RowKit Go.Maps

/-- A builder, and the reference's box x, each of memory of its own. -/
def PV (w wr : World) (g mb x : Nat) (sb sr : M7.St) (q : Nat) (vL vP : Value) : Prop :=
  ∃ F G : Nat → Prop, BS F wr g mb sb q ∧ RepN G wr vL sr.L ∧ Ints G wr vP (M7.pathN sr.d sr.L) ∧ (∀ b, F b → w.heap.size ≤ b ∧ b ≠ x ∧ ¬ G b) ∧ (∀ b, G b → b < wr.heap.size ∧ b ≠ x) ∧ w.heap.size ≤ x ∧ x < wr.heap.size ∧ Below w.heap.size w wr
def PB (w wr : World) (g mb x : Nat) (sb sr : M7.St) (q : Nat) : Prop := ∃ vL vP, PV w wr g mb x sb sr q vL vP ∧ Box wr x 29 [vL, vP]
section
variable {w wr : World} {g mb x q : Nat} {sb sr : M7.St} {vL vP : Value}
theorem PV.put {tk : Tok} {va : Value} {S : Nat → Prop} (h : PV w wr g mb x sb sr q vL vP) (hq : q ≤ 100) (ht : FitT tk) (hkw : (Lit.int .i64 tk.kind).wf = true) (hS : ∀ b, S b → b < w.heap.size) (hat : Row S wr 2 va tk.attrs.length (cellsA tk.attrs)) :
    Calls Try.prog 7 #[.pointer (some ⟨g, 0, none⟩), tk.val va] wr fun e w' => e = .returned (.tuple #[]) ∧ PV w w' g mb x (M7.step sb tk) sr (q + 1) vL vP ∧ w'.heap[x]? = wr.heap[x]? := by
  obtain ⟨F, G, hB, hr, hp, hF, hG, hx, hx2, hb⟩ := h
  have hz := hb.size
  refine (bPut (S := S) hB hq ht hkw (fun b h => ⟨by have := hS b h; omega, fun e => by have := (hF b e).1; have := hS b h; omega⟩) hat).mono ?_
  rintro e w' ⟨rfl, h1, h2⟩
  have hz2 := h2.size
  have hk : ∀ b, G b → w'.heap[b]? = wr.heap[b]? := fun b hb' => h2.block b (hG b hb').1 (fun e => (hF b e).2.2 hb')
  refine ⟨rfl, ⟨_, G, h1, hr.keep hk, Row.keep hp hk, fun b hb' => ?_, fun b hb' => ⟨by have := (hG b hb').1; omega, (hG b hb').2⟩, hx, by omega, Out.low hb h2 (fun b e => (hF b e).1)⟩, h2.block x hx2 (fun e => (hF x e).2.1 rfl)⟩
  rcases hb' with e | e
  · exact hF b e
  · exact ⟨by omega, by omega, fun k => by have := (hG b k).1; omega⟩
theorem PB.put {tk : Tok} {va : Value} {S : Nat → Prop} (h : PB w wr g mb x sb sr q) (hq : q ≤ 100) (ht : FitT tk) (hkw : (Lit.int .i64 tk.kind).wf = true) (hS : ∀ b, S b → b < w.heap.size) (hat : Row S wr 2 va tk.attrs.length (cellsA tk.attrs)) :
    Calls Try.prog 7 #[.pointer (some ⟨g, 0, none⟩), tk.val va] wr fun e w' => e = .returned (.tuple #[]) ∧ PB w w' g mb x (M7.step sb tk) sr (q + 1) := by
  obtain ⟨vL, vP, h1, h2⟩ := h
  refine (h1.put hq ht hkw hS hat).mono ?_
  rintro e w' ⟨rfl, h3, h4⟩
  exact ⟨rfl, vL, vP, h3, h2.keep h4⟩
theorem PV.below {w' : World} (h : PV w wr g mb x sb sr q vL vP) (hb : Below wr.heap.size wr w') : PV w w' g mb x sb sr q vL vP := by
  obtain ⟨F, G, hB, hr, hp, hF, hG, hx, hx2, hb0⟩ := h
  have hz := hb.size
  exact ⟨F, G, hB.below hb, hr.below (fun b h => (hG b h).1) hb, Row.keep hp (fun b h => hb.block b (hG b h).1), hF, fun b h => ⟨by have := (hG b h).1; omega, (hG b h).2⟩, hx, by omega, bt hb0 hb⟩
theorem PB.below {w' : World} (h : PB w wr g mb x sb sr q) (hb : Below wr.heap.size wr w') : PB w w' g mb x sb sr q := by
  obtain ⟨vL, vP, h1, h2⟩ := h
  exact ⟨vL, vP, h1.below hb, h2.below hb h2.lt⟩
theorem PV.low (h : PV w wr g mb x sb sr q vL vP) : Below w.heap.size w wr := by
  obtain ⟨F, G, hB, hr, hp, hF, hG, hx, hx2, hb0⟩ := h
  exact hb0
/-- The reference's put. -/
theorem PV.ref {tk : Tok} {va : Value} {S : Nat → Prop} (h : PV w wr g mb x sb sr q vL vP) (hok : sr.ok) (hd : sr.d ≤ 1000000) (hw : M3.weight sr.L ≤ 100000) (ht : dtN sr.L + tk.text.size ≤ 1073741824) (hS : ∀ b, S b → b < w.heap.size) (hat : Row S wr 2 va tk.attrs.length (cellsA tk.attrs)) :
    Calls Try.prog 8 #[.agg #[vL, vP], tk.val va] wr.drew fun e w' => ∃ v' p', e = .returned (.agg #[v', p']) ∧ PV w w' g mb x sb (M7.step sr tk) q v' p' ∧ Below wr.heap.size wr w' := by
  obtain ⟨F, G, hB, hr, hp, hF, hG, hx, hx2, hb0⟩ := h
  have hz := hb0.size
  have hlt := hB.lt
  refine (ref07Put (fun b => G b ∨ S b) vL vP va sr tk wr.drew hok hd hw ht (fun b hb => by
    show b < wr.heap.size
    rcases hb with h | h
    · exact (hG b h).1
    · have := hS b h; omega) ((RepN.keep (w' := wr.drew) hr fun _ _ => rfl).mono fun _ h => Or.inl h) ((Row.keep (w' := wr.drew) hp fun _ _ => rfl).mono fun _ h => Or.inl h) ((Row.keep (w' := wr.drew) hat fun _ _ => rfl).mono fun _ h => Or.inr h)).mono ?_
  rintro e w' ⟨v', p', rfl, hr', hp', hb'⟩
  have hz' : wr.heap.size ≤ w'.heap.size := hb'.size
  have hbw : Below wr.heap.size wr w' := (Below.refl wr.heap.size wr).drew.trans hb'
  refine ⟨v', p', rfl, ⟨F, _, hB.below hbw, hr', hp', fun b e => ⟨(hF b e).1, (hF b e).2.1, ?_⟩, fun b e => ?_, hx, by omega, bt hb0 hbw⟩, hbw⟩
  · rintro ((k | k) | k)
    · exact (hF b e).2.2 k
    · have := hS b k; have := (hF b e).1; omega
    · have := hlt b e
      have : wr.heap.size ≤ b := k.1
      omega
  · rcases e with (k | k) | k
    · exact ⟨by have := (hG b k).1; omega, (hG b k).2⟩
    · have := hS b k; exact ⟨by omega, by omega⟩
    · have : wr.heap.size ≤ b := k.1
      exact ⟨k.2, by omega⟩
theorem PV.store {W : World} {z0 z1 : Value} (h : PV w W g mb x sb sr q vL vP) (hb : Box W x 29 [z0, z1]) : PB w ((W.setCell ⟨x, 0, none⟩ vL).setCell ⟨x, 1, none⟩ vP) g mb x sb sr q := by
  obtain ⟨F, G, hB, hr, hp, hF, hG, hx, hx2, hb0⟩ := h
  have hsz : ((W.setCell ⟨x, 0, none⟩ vL).setCell ⟨x, 1, none⟩ vP).heap.size = W.heap.size := by simp [World.setCell]
  have hk : ∀ b, b ≠ x → ((W.setCell ⟨x, 0, none⟩ vL).setCell ⟨x, 1, none⟩ vP).heap[b]? = W.heap[b]? := fun b hb => by
    rw [Below.heap_setCell _ _ _ _ (by simpa using hb), Below.heap_setCell _ _ _ _ (by simpa using hb)]
  have hlt := hB.lt
  exact ⟨vL, vP, ⟨F, G, hB.keep (fun b e => by rw [hsz]; exact hlt b e) (fun b e => hk b (hF b e).2.1), hr.keep (fun b e => hk b (hG b e).2), Row.keep hp (fun b e => hk b (hG b e).2), hF, fun b e => ⟨by rw [hsz]; exact (hG b e).1, (hG b e).2⟩, hx, by rw [hsz]; exact hx2, two_below hb0 _ _ hx⟩, hb.two _ _⟩
theorem PB.open_ (h : PB w wr g mb x sb sr q) (hq : q ≤ 100) :
    Calls Try.prog 9 #[.pointer (some ⟨g, 0, none⟩)] wr fun e W' => NewTxs (M7.openN sb.d sb.L) wr e W' ∧ PB w W' g mb x sb sr q := by
  obtain ⟨vL, vP, ⟨F, G, hB, hr, hp, hF, hG, hx, hx2, hb0⟩, hbx⟩ := h
  refine (bOpen hB hq).mono ?_
  rintro e w' ⟨v, h2, h3, h4⟩
  exact ⟨⟨v, h2, h3, h4⟩, PB.below ⟨vL, vP, ⟨F, G, hB, hr, hp, hF, hG, hx, hx2, hb0⟩, hbx⟩ h4⟩
theorem PB.nodes (h : PB w wr g mb x sb sr q) (hq : q ≤ 100) :
    Calls Try.prog 12 #[.pointer (some ⟨g, 0, none⟩)] wr fun e W' => ∃ v, e = .returned v ∧ Fresh W' wr.heap.size v sb.L ∧ PB w W' g mb x sb sr q ∧ wr.heap.size ≤ W'.heap.size := by
  obtain ⟨vL, vP, ⟨F, G, hB, hr, hp, hF, hG, hx, hx2, hb0⟩, hbx⟩ := h
  have hz := hb0.size
  refine (bNodes hB hq).mono ?_
  rintro e w' ⟨v, rfl, h1, h2, h3⟩
  have hz3 := h3.size
  have hk : ∀ b, G b → w'.heap[b]? = wr.heap[b]? := fun b hb' => h3.block b (hG b hb').1 (fun e => (hF b e).2.2 hb')
  exact ⟨v, rfl, h1, ⟨vL, vP, ⟨F, G, h2, hr.keep hk, Row.keep hp hk, hF, fun b e => ⟨by have := (hG b e).1; omega, (hG b e).2⟩, hx, by omega, Out.low hb0 h3 (fun b e => (hF b e).1)⟩, hbx.keep (h3.block x hx2 (fun e => (hF x e).2.1 rfl))⟩, hz3⟩
end

/-- The state within 'r = Put(r, l[i])'. -/
def PI (w wr : World) (g mb x : Nat) (sb s' : M7.St) (q : Nat) (f : Nat → Bool) (t : Nat → Value) (W : World) : Prop :=
  (f 5 = false → W = wr.drew) ∧ (f 5 = true → f 6 = false → ∃ vL vP z0 z1, t 5 = .agg #[vL, vP] ∧ PV w W g mb x sb s' q vL vP ∧ Box W x 29 [z0, z1]) ∧ (f 6 = true → PB w W g mb x sb s' q)
theorem PI.same {w wr W : World} {g mb x q : Nat} {sb s' : M7.St} {f : Nat → Bool} {t : Nat → Value} (h : PI w wr g mb x sb s' q f t W) (i : Nat) (v : Value) (h5 : 5 ≠ i) (h6 : 6 ≠ i) : PI w wr g mb x sb s' q (updF f i) (updT t i v) W := by
  unfold PI
  rw [updF_ne _ h5, updF_ne _ h6, updT_ne _ _ h5]
  exact h

theorem flat_str7 (l : List ByteArray) : (l.flatMap fun s => [Value.string s]) = l.map Value.string := by
  induction l with
  | nil => rfl
  | cons a r ih => rw [List.flatMap_cons, ih]; rfl
theorem txs_at {S : Nat → Prop} {w : World} {a : Option Addr} {n cap : Nat} {l : List ByteArray} (h : Txs S w (.slice a n cap) l) (i : Nat) (hi : i < l.length) : ∃ b off, a = some ⟨b, off, none⟩ ∧ S b ∧ w.cell? ⟨b, off + i, none⟩ = some (.string l[i]) := by
  obtain ⟨h0, a', cap', h1, h2, h3, h4, h5⟩ := h
  simp only [Value.slice.injEq] at h1
  obtain ⟨rfl, -, rfl⟩ := h1
  obtain ⟨b, off, rfl, h7, h8⟩ := h5 (by omega)
  refine ⟨b, off, rfl, h7, h8 i _ ?_⟩
  rw [flat_str7, List.getElem?_map, List.getElem?_eq_getElem hi]
  rfl
/-- The state within 'len(o) != len(w) || !Same(b.Nodes(), r.L)'. -/
def PNI (F : Nat → Prop) (g mb : Nat) (s : M7.St) (q : Nat) (w0 : World) (f : Nat → Bool) (t : Nat → Value) (W : World) : Prop :=
  Out F w0 W ∧ BS F W g mb s q ∧ (f 7 = false → W = w0.drew) ∧ (f 7 = true → f 10 = false → RepN (fun b => b < W.heap.size) W (t 7) s.L)
theorem PNI.same {F : Nat → Prop} {g mb q : Nat} {s : M7.St} {w0 W : World} {f : Nat → Bool} {t : Nat → Value} (h : PNI F g mb s q w0 f t W) (i : Nat) (v : Value) (h7 : 7 ≠ i) (h10 : 10 ≠ i) : PNI F g mb s q w0 (updF f i) (updT t i v) W := by
  unfold PNI
  rw [updF_ne _ h7, updF_ne _ h10, updT_ne _ _ h7]
  exact h

set_option maxHeartbeats 16000000 in
set_option maxRecDepth 100000 in
theorem law07BuildPuts (S : Nat → Prop) (v : Value) (l : List Tok) (w : World) (hS : ∀ b, S b → b < w.heap.size) (hr : TokR S w v l) (hsz : SzT l) :
    Calls Try.prog 3 #[v] w fun e w' => e = .returned (.bool true) ∧ Below w.heap.size w w' := by
  have hC := Lib.hid (ref07Cut S v l w hS hr hsz)
  have hft := Lib.hid (cut_fit7 hsz)
  have hwi := Lib.hid (fun i => Nat.le_trans (M7.weight_run ((M7.cutT l).take i)) (Nat.le_trans (sum_take_le M7.tokW _ i) (cut_tokW l)))
  have hti := Lib.hid (fun i => Nat.le_trans (M7.dt_run ((M7.cutT l).take i)) (Nat.le_trans (sum_take_le (fun t : Tok => t.text.size) _ i) (cut_text7 l)))
  obtain ⟨wo, rfl⟩ : ∃ wo : World, wo = w := ⟨_, rfl⟩
  go_enter Try.func3, Try.ntmps3
  go_upto_region 2 with (go_at_call 5; refine hC.out.mono ?_; rintro e w1 ⟨v1, rfl, hT0, hb1⟩)
  replace hT0 := TokR.of hT0
  have hz1 := hb1.size
  generalize M7.cutT l = c at *
  obtain ⟨a1, k1, rfl⟩ := hT0.slice
  have hc0 : c.length ≤ 90 := hft.out.1
  replace hT0 := Lib.hid hT0
  clear hC hsz hr
  go_wp2_with fail
  refine (bNew _).mono ?_
  rintro e w2 ⟨g, mb, rfl, hB0, hbN⟩
  have hz2 := hbN.size
  have hLB : Hid (PB w1 (w2.alloc (.cells #[.slice none 0 0, .slice none 0 0] 29)) g mb w2.heap.size ⟨[], 0⟩ ⟨[], 0⟩ 0) :=
    ⟨_, _, ⟨_, fun _ => False, hB0.below ((Below.refl _ _).alloc (Nat.le_refl _) _), RepN.nil _ _, Row.nil _ _ _, fun b h => ⟨h.1, by have := h.2; omega, id⟩, fun _ h => h.elim, hz2, by simp, hbN.alloc (by omega) _⟩, Box.new w2 29 [.slice none 0 0, .slice none 0 0]⟩
  clear hB0 hbN
  go_wp2_with fail
  go_loopw [5] (fun u5 wr => ∃ i : Nat, i ≤ c.length ∧ u5 = .int .i64 (i : Int) ∧ Hid (PB w1 wr g mb w2.heap.size (M7.run (c.take i)) (M7.run (c.take i)) i)) (fun u5 _ => c.length - (intOf u5).toNat)
  case atStart => exact ⟨0, by omega, rfl, hLB⟩
  case round =>
    obtain ⟨i, hi, rfl, hL⟩ := hrel
    clear hLB
    have hbr : Below w1.heap.size w1 wr := by
      obtain ⟨vL, vP, h, _⟩ := hL.out
      exact h.low
    have hzr := hbr.size
    by_cases hlt : i < c.length
    · obtain ⟨b, off, va, rfl, hSb, hat, q0, q1, q2, q3⟩ := (hT0.out.keep (w' := wr) (fun b hb' => hbr.block b hb'.2)).at_ i hlt
      obtain ⟨hfi, hkw⟩ := hft.out.2 _ (List.getElem_mem hlt)
      have htk : M7.run (c.take (i + 1)) = M7.step (M7.run (c.take i)) c[i] := by
        rw [List.take_succ_eq_append_getElem hlt, M7.run_snoc]
      have hok := M7.run_ok (c.take i)
      have hdw := M7.ok_weight hok
      have h1 := hwi.out i
      have h2 := hti.out i
      have h1n := hwi.out (i + 1)
      have hokn := M7.run_ok (c.take (i + 1))
      have hbl : b < w1.heap.size := hSb.2
      generalize c[i] = tk at *
      obtain ⟨av, cv, rfl⟩ := hat.slice
      have hP := Lib.hid (PB.put (S := fun b => wo.heap.size ≤ b ∧ b < w1.heap.size) (tk := tk) (va := .slice av tk.attrs.length cv) hL.out (by omega) hfi hkw (fun b h => h.2) hat)
      generalize hsr : M7.run (c.take i) = s at *
      generalize hse : M7.run (c.take (i + 1)) = s' at *
      rw [← htk] at hP
      replace htk := Lib.hid htk
      replace hse := Lib.hid hse
      replace hsr := Lib.hid hsr
      clear hL hkw
      go_wp2_with fail
      refine hP.out.mono ?_
      rintro e w3 ⟨rfl, hPB⟩
      obtain ⟨vL, vP, hV, hBx⟩ := hPB
      have hbr3 := hV.low
      have hcc : ∀ o, w3.cell? ⟨b, o, none⟩ = wr.cell? ⟨b, o, none⟩ := fun o => (hbr3.cell (p := ⟨b, o, none⟩) hbl).trans (hbr.cell (p := ⟨b, o, none⟩) hbl).symm
      rw [← hcc] at q0 q1 q2 q3
      replace hat := Row.keep (w' := w3) hat (fun b' hb' => (hbr3.block b' hb'.2).trans (hbr.block b' hb'.2).symm)
      obtain ⟨aL, cL, rfl⟩ : ∃ a c, vL = .slice a s.L.length c := by
        obtain ⟨F, G, _, h, _⟩ := hV
        exact h.slice
      obtain ⟨aP, cP, rfl⟩ : ∃ a c, vP = .slice a (M7.pathN s.d s.L).length c := by
        obtain ⟨F, G, _, _, h, _⟩ := hV
        exact Row.slice h
      have x0 := hBx.cell (i := 0) rfl
      have x1 := hBx.cell (i := 1) rfl
      have hgl := hBx.lt
      have hPut := Lib.hid (hV.ref (tk := tk) (va := .slice av tk.attrs.length cv) (S := fun b => wo.heap.size ≤ b ∧ b < w1.heap.size) hok (by omega) (by omega) (by have := hfi.2.1; omega) (fun b h => h.2) hat)
      generalize M7.pathN s.d s.L = pa at *
      rw [← htk.out] at hPut
      clear hP hV hok hdw h1 h2 hat hfi hbr3 hcc
      replace hBx := Lib.hid hBx
      go_upto_region 10 with fail
      refine wp_region_knownC (n := 7) ([some (.agg #[.slice aL s.L.length cL, .slice aP pa.length cP]), some (Value.slice (some ⟨b, off, none⟩) c.length k1), some (Value.int IntKind.i64 (i : Int)), some (.pointer (some ⟨b, off + i * 4, none⟩)), some (.agg #[.int .i64 tk.kind, .string tk.name, .slice av tk.attrs.length cv, .string tk.text]), none, none] : List (Option Value)) (fun t => ⟨#[Value.slice (some ⟨b, off, none⟩) c.length k1, undef, u2, Value.pointer (some ⟨g, 0, none⟩), Value.pointer (some ⟨w2.heap.size, 0, none⟩), Value.int IntKind.i64 (i : Int), u6, u7, u8, v, Value.slice (some ⟨b, off, none⟩) c.length k1, Value.pointer (some ⟨g, 0, none⟩), Value.pointer (some ⟨g, 0, none⟩), Value.bool false, Value.int IntKind.i64 (i : Int), Value.slice (some ⟨b, off, none⟩) c.length k1, Value.int IntKind.i64 (c.length : Int), Value.bool true, u18, u19, Value.pointer (some ⟨g, 0, none⟩), Value.slice (some ⟨b, off, none⟩) c.length k1, Value.int IntKind.i64 (i : Int), Value.pointer (some ⟨b, off + i * 4, none⟩), Value.agg #[Value.int IntKind.i64 tk.kind, Value.string tk.name, Value.slice av tk.attrs.length cv, Value.string tk.text], Value.tuple #[], t 0, t 1, t 2, t 3, t 4, t 5, u32, u33, u34, u35, u36, u37, u38, u39, u40, u41, u42, u43, u44, u45, u46, u47, u48, u49, u50, u51, u52, u53, u54, u55, u56, u57, u58, u59, u60, u61, u62, u63, undef], []⟩) (fun f t W => PI w1 w3 g mb w2.heap.size s' s' (i + 1) f t W) (fun j => match j with | 0 => u26 | 1 => u27 | 2 => u28 | 3 => u29 | 4 => u30 | 5 => u31 | _ => undef) (by kernel_rfl) (by rfl) (by rfl) (by kernel_rfl) rfl ?i0 ?step ?fin
      case i0 =>
        exact ⟨fun _ => rfl, (fun h => by simp at h), (fun h => by simp at h)⟩
      case step =>
        intro j0 hj0 f t W hfi hwt hcl hk2 hI
        have h65 : f 6 = true → f 5 = true := hcl 6 5 (by kernel_rfl)
        have ha := hcl 5 0 (by kernel_rfl)
        have hb' := hcl 5 4 (by kernel_rfl)
        clear hcl
        have hnot : j0 = 0 ∨ j0 = 4 → f 5 = false := fun h => Bool.eq_false_iff.2 (fun q => by
          have q1 := ha q
          have q2 := hb' q
          rcases h with rfl | rfl <;> simp_all)
        obtain rfl | rfl | rfl | rfl | rfl | rfl | rfl : j0 = 0 ∨ j0 = 1 ∨ j0 = 2 ∨ j0 = 3 ∨ j0 = 4 ∨ j0 = 5 ∨ j0 = 6 := by omega
        · -- operation 0
          try (have hW := hI.1 (hnot (by decide)); subst hW)
          replace hI := Lib.hid hI
          replace hk2 := Lib.hid hk2
          clear hwt
          refine wpOp_step rfl (fun K hK => ?_)
          go_simp
          exact hK _ _ ⟨_, by simp [updT], hk2.out.at_ rfl, hI.out.same _ _ (by decide) (by decide)⟩
        · -- operation 1
          try (have hW := hI.1 (hnot (by decide)); subst hW)
          replace hI := Lib.hid hI
          replace hk2 := Lib.hid hk2
          clear hwt
          refine wpOp_step rfl (fun K hK => ?_)
          go_simp
          exact hK _ _ ⟨_, by simp [updT], hk2.out.at_ rfl, hI.out.same _ _ (by decide) (by decide)⟩
        · -- operation 2
          try (have hW := hI.1 (hnot (by decide)); subst hW)
          replace hI := Lib.hid hI
          replace hk2 := Lib.hid hk2
          clear hwt
          refine wpOp_step rfl (fun K hK => ?_)
          go_simp
          exact hK _ _ ⟨_, by simp [updT], hk2.out.at_ rfl, hI.out.same _ _ (by decide) (by decide)⟩
        · -- operation 3
          have e1 : t 1 = Value.slice (some ⟨b, off, none⟩) c.length k1 := hk2 1 _ (hwt 1 (by kernel_rfl)) rfl
          have e2 : t 2 = Value.int IntKind.i64 (i : Int) := hk2 2 _ (hwt 2 (by kernel_rfl)) rfl
          try (have hW := hI.1 (hnot (by decide)); subst hW)
          replace hI := Lib.hid hI
          replace hk2 := Lib.hid hk2
          clear hwt
          refine wpOp_step rfl (fun K hK => ?_)
          go_simp
          exact hK _ _ ⟨_, by simp [updT, e1, e2], hk2.out.at_ rfl, hI.out.same _ _ (by decide) (by decide)⟩
        · -- operation 4
          have e3 : t 3 = .pointer (some ⟨b, off + i * 4, none⟩) := hk2 3 _ (hwt 3 (by kernel_rfl)) rfl
          try (have hW := hI.1 (hnot (by decide)); subst hW)
          replace hI := Lib.hid hI
          replace hk2 := Lib.hid hk2
          clear hwt
          refine wpOp_step rfl (fun K hK => ?_)
          go_simp
          exact hK _ _ ⟨_, by simp [updT, e3], hk2.out.at_ rfl, hI.out.same _ _ (by decide) (by decide)⟩
        · -- operation 5
          have e0 : t 0 = .agg #[.slice aL s.L.length cL, .slice aP pa.length cP] := hk2 0 _ (hwt 0 (by kernel_rfl)) rfl
          have e4 : t 4 = .agg #[.int .i64 tk.kind, .string tk.name, .slice av tk.attrs.length cv, .string tk.text] := hk2 4 _ (hwt 4 (by kernel_rfl)) rfl
          have h6 : f 6 = false := Bool.eq_false_iff.2 (fun h => by rw [h65 h] at hfi; cases hfi)
          have hW := hI.1 hfi
          subst hW
          replace hk2 := Lib.hid hk2
          replace hI := Lib.hid hI
          clear hwt
          refine wpOp_step rfl (fun K hK => ?_)
          go_simp
          refine hPut.out.mono ?_
          rintro e w5 ⟨v5, p5, rfl, hV5, hb5⟩
          exact hK _ _ ⟨.agg #[v5, p5], by simp [updT, e0, e4], hk2.out.free rfl, ⟨(fun h => by rw [updF_self] at h; cases h), fun _ _ => ⟨v5, p5, _, _, updT_same _ _ _, hV5, hBx.out.below hb5 hgl⟩, (fun h => by rw [updF_ne _ (by decide), h6] at h; cases h)⟩⟩
        · -- operation 6
          have h5 := hwt 5 (by kernel_rfl)
          obtain ⟨vL, vP, z0, z1, e5, hV, bW⟩ := hI.2.1 h5 hfi
          have hst := Lib.hid (hV.store bW)
          obtain ⟨a8, c8, rfl⟩ : ∃ a c, vL = .slice a s'.L.length c := by
            obtain ⟨F, G, _, h, _⟩ := hV
            exact h.slice
          obtain ⟨a9, c9, rfl⟩ : ∃ a c, vP = .slice a (M7.pathN s'.d s'.L).length c := by
            obtain ⟨F, G, _, _, h, _⟩ := hV
            exact Row.slice h
          have y0 := bW.cell (i := 0) rfl
          have y1 := bW.cell (i := 1) rfl
          have f0 := bW.free 0
          have f1 := bW.free 1
          clear bW hV
          replace hk2 := Lib.hid hk2
          replace hI := Lib.hid hI
          clear hwt
          refine wpOp_step rfl (fun K hK => ?_)
          go_simp
          exact hK _ _ ⟨undef, by simp [updT, e5, ], hk2.out.free rfl, ⟨(fun h => by rw [updF_ne _ (by decide), h5] at h; cases h), (fun _ h => by rw [updF_self] at h; cases h), fun _ => hst.out⟩⟩
      case fin =>
        intro f9 t9 W hall hk2 hI
        have hPB : Hid (PB w1 W g mb w2.heap.size s' s' (i + 1)) := hI.2.2 (hall 6 (by omega))
        clear hk2 hall hI hPut hBx
        obtain ⟨vL5, vP5, ⟨F, G, hB, hr5, hp5, hF, hG, hx, hx2, hb05⟩, hBx5⟩ := hPB.out
        have hltF := hB.lt
        have hz05 := hb05.size
        have hOpn := Lib.hid (bOpen hB (by omega))
        clear hPB
        go_wp2_with fail
        refine hOpn.out.mono ?_
        rintro e w6 ⟨vo, rfl, hT6, hb6⟩
        obtain ⟨ao, co, rfl⟩ := Row.slice hT6
        have hol := M7.openN_len hokn
        have hdn := M7.ok_weight hokn
        have hz6 := hb6.size
        have hr6 := hr5.below (fun b h => (hG b h).1) hb6
        have hp6 : Ints G w6 _ _ := Row.keep hp5 (fun b h => hb6.block b (hG b h).1)
        have hBx6 := hBx5.below hb6 hx2
        have hOp := Lib.hid (ref07Open G vL5 vP5 s'.L s'.d w6 (fun b h => by have := (hG b h).1; omega) hr6 hokn (by omega) hp6)
        obtain ⟨aL6, cL6, rfl⟩ := hr6.slice
        obtain ⟨aP6, cP6, rfl⟩ := Row.slice hp6
        have z0 := hBx6.cell (i := 0) rfl
        have z1 := hBx6.cell (i := 1) rfl
        have hB6 := hB.below hb6
        clear hr5 hp5 hBx5 hOpn
        replace hB := Lib.hid hB
        replace hB6 := Lib.hid hB6
        replace hBx6 := Lib.hid hBx6
        replace hr6 := Lib.hid hr6
        replace hp6 := Lib.hid hp6
        go_wp2_with fail
        refine hOp.out.mono ?_
        rintro e w7 ⟨vw, rfl, hT7, hb7⟩
        obtain ⟨aw, cw, rfl⟩ := Row.slice hT7
        have hz7 := hb7.size
        have hB7 := Lib.hid (hB6.out.below hb7)
        have hr7 := Lib.hid (hr6.out.below (fun b h => Nat.lt_of_lt_of_le (hG b h).1 hz6) hb7)
        have hp7 : Hid (Ints G w7 (.slice aP6 (M7.pathN s'.d s'.L).length cP6) (M7.pathN s'.d s'.L)) := Row.keep hp6.out (fun b h => hb7.block b (Nat.lt_of_lt_of_le (hG b h).1 hz6))
        have hBx7 := Lib.hid (hBx6.out.below hb7 (by omega))
        replace hT6 := Lib.hid (Txs.keep (S' := fun b => W.heap.size ≤ b ∧ b < w7.heap.size) hT6 (fun b h => hb7.block b h.2) (fun b h => ⟨h.1, by omega⟩))
        replace hT7 := Lib.hid (Txs.keep (S' := fun b => W.heap.size ≤ b ∧ b < w7.heap.size) hT7 (fun b h => rfl) (fun b h => ⟨by omega, h.2⟩))
        have hb07 : Below w1.heap.size w1 w7 := bt hb05 (bt hb6 hb7)
        clear hOp z0 z1 hB hB6 hr6 hp6 hBx6
        generalize hpn : M7.pathN s'.d s'.L = pn at *
        generalize hon : M7.openN s'.d s'.L = os at *
        go_upto_region 13 with fail
        refine wp_region_knownC (n := 13) ([some (Value.slice ao s'.d co), some (.int .i64 (s'.d : Int)), some (Value.slice aw s'.d cw), some (.int .i64 (s'.d : Int)), some (.bool false), some (.bool false), some (.pointer (some ⟨g, 0, none⟩)), none, some (.pointer (some ⟨w2.heap.size, 0, none⟩)), some (.slice aL6 s'.L.length cL6), some (.bool true), some (.bool false), some (.bool false)] : List (Option Value)) (fun t => ⟨#[Value.slice (some ⟨b, off, none⟩) c.length k1, undef, u2, Value.pointer (some ⟨g, 0, none⟩), Value.pointer (some ⟨w2.heap.size, 0, none⟩), Value.int IntKind.i64 (i : Int), Value.slice ao s'.d co, Value.slice aw s'.d cw, u8, v, Value.slice (some ⟨b, off, none⟩) c.length k1, Value.pointer (some ⟨g, 0, none⟩), Value.pointer (some ⟨g, 0, none⟩), Value.bool false, Value.int IntKind.i64 (i : Int), Value.slice (some ⟨b, off, none⟩) c.length k1, Value.int IntKind.i64 (c.length : Int), Value.bool true, u18, u19, Value.pointer (some ⟨g, 0, none⟩), Value.slice (some ⟨b, off, none⟩) c.length k1, Value.int IntKind.i64 (i : Int), Value.pointer (some ⟨b, off + i * 4, none⟩), Value.agg #[Value.int IntKind.i64 tk.kind, Value.string tk.name, Value.slice av tk.attrs.length cv, Value.string tk.text], Value.tuple #[], t9 0, t9 1, t9 2, t9 3, t9 4, t9 5, Value.pointer (some ⟨g, 0, none⟩), Value.slice ao s'.d co, Value.agg #[Value.slice aL6 s'.L.length cL6, Value.slice aP6 pn.length cP6], Value.slice aw s'.d cw, t 0, t 1, t 2, t 3, t 4, t 5, t 6, t 7, t 8, t 9, t 10, t 11, t 12, u49, u50, u51, u52, u53, u54, u55, u56, u57, u58, u59, u60, u61, u62, u63, undef], []⟩) (fun f t W2 => PNI F g mb s' (i + 1) w7 f t W2) (fun j => match j with | 0 => u36 | 1 => u37 | 2 => u38 | 3 => u39 | 4 => u40 | 5 => u41 | 6 => u42 | 7 => u43 | 8 => u44 | 9 => u45 | 10 => u46 | 11 => u47 | 12 => u48 | _ => undef) (by kernel_rfl) (by rfl) (by rfl) (by kernel_rfl) rfl ?i0 ?step ?fin
        case i0 =>
          have hbd : Below w7.heap.size w7 w7.drew := (Below.refl _ w7).drew
          exact ⟨(Out.refl F w7).below hbd, hB7.out.below hbd, fun _ => rfl, (fun h => by simp at h)⟩
        case step =>
          intro j0 hj0 f t W2 hfi hwt hcl hk2 hI
          have h7x : ∀ j, j < 6 ∨ j = 8 ∨ j = 9 → j ≠ 7 ∧ j ≠ 10 := fun j h => by omega
          have hbW := hBx7.out.keep (hI.1.block _ (by omega) (fun e => (hF _ e).2.1 rfl))
          have s0 := hbW.cell (i := 0) rfl
          clear hbW
          obtain rfl | rfl | rfl | rfl | rfl | rfl | rfl | rfl | rfl | rfl | rfl | rfl | rfl : j0 = 0 ∨ j0 = 1 ∨ j0 = 2 ∨ j0 = 3 ∨ j0 = 4 ∨ j0 = 5 ∨ j0 = 6 ∨ j0 = 7 ∨ j0 = 8 ∨ j0 = 9 ∨ j0 = 10 ∨ j0 = 11 ∨ j0 = 12 := by omega
          · -- operation 0
            replace hI := Lib.hid hI
            replace hk2 := Lib.hid hk2
            clear hwt
            refine wpOp_step rfl (fun K hK => ?_)
            go_simp
            exact hK _ _ ⟨_, by simp [updT], hk2.out.at_ rfl, hI.out.same _ _ (by decide) (by decide)⟩
          · -- operation 1
            have e0 : t 0 = Value.slice ao s'.d co := hk2 0 _ (hwt 0 (by kernel_rfl)) rfl
            replace hI := Lib.hid hI
            replace hk2 := Lib.hid hk2
            clear hwt
            refine wpOp_step rfl (fun K hK => ?_)
            go_simp
            exact hK _ _ ⟨_, by simp [updT, e0], hk2.out.at_ rfl, hI.out.same _ _ (by decide) (by decide)⟩
          · -- operation 2
            replace hI := Lib.hid hI
            replace hk2 := Lib.hid hk2
            clear hwt
            refine wpOp_step rfl (fun K hK => ?_)
            go_simp
            exact hK _ _ ⟨_, by simp [updT], hk2.out.at_ rfl, hI.out.same _ _ (by decide) (by decide)⟩
          · -- operation 3
            have e2 : t 2 = Value.slice aw s'.d cw := hk2 2 _ (hwt 2 (by kernel_rfl)) rfl
            replace hI := Lib.hid hI
            replace hk2 := Lib.hid hk2
            clear hwt
            refine wpOp_step rfl (fun K hK => ?_)
            go_simp
            exact hK _ _ ⟨_, by simp [updT, e2], hk2.out.at_ rfl, hI.out.same _ _ (by decide) (by decide)⟩
          · -- operation 4
            have e1 : t 1 = .int .i64 (s'.d : Int) := hk2 1 _ (hwt 1 (by kernel_rfl)) rfl
            have e3 : t 3 = .int .i64 (s'.d : Int) := hk2 3 _ (hwt 3 (by kernel_rfl)) rfl
            replace hI := Lib.hid hI
            replace hk2 := Lib.hid hk2
            clear hwt
            refine wpOp_step rfl (fun K hK => ?_)
            go_simp
            exact hK _ _ ⟨_, by simp [updT, e1, e3], hk2.out.at_ rfl, hI.out.same _ _ (by decide) (by decide)⟩
          · -- operation 5
            have e4 : t 4 = .bool false := hk2 4 _ (hwt 4 (by kernel_rfl)) rfl
            replace hI := Lib.hid hI
            replace hk2 := Lib.hid hk2
            clear hwt
            refine wpOp_step rfl (fun K hK => ?_)
            go_simp
            exact hK _ _ ⟨_, by simp [updT, e4], hk2.out.at_ rfl, hI.out.same _ _ (by decide) (by decide)⟩
          · -- operation 6
            have e5 : t 5 = .bool false := hk2 5 _ (hwt 5 (by kernel_rfl)) rfl
            replace hI := Lib.hid hI
            replace hk2 := Lib.hid hk2
            clear hwt
            refine wpOp_step rfl (fun K hK => ?_)
            go_simp
            exact hK _ _ ⟨_, by simp [updT, e5], hk2.out.at_ rfl, hI.out.same _ _ (by decide) (by decide)⟩
          · -- operation 7
            have e5 : t 5 = .bool false := hk2 5 _ (hwt 5 (by kernel_rfl)) rfl
            have e6 : t 6 = .pointer (some ⟨g, 0, none⟩) := hk2 6 _ (hwt 6 (by kernel_rfl)) rfl
            have h10 : f 10 = false := Bool.eq_false_iff.2 (fun h => by rw [hcl 10 7 (by kernel_rfl) h] at hfi; cases hfi)
            have hW := hI.2.2.1 hfi
            subst hW
            clear hcl
            replace hk2 := Lib.hid hk2
            replace hI := Lib.hid hI
            clear hwt
            refine wpOp_step rfl (fun K hK => ?_)
            go_simp
            have hbd : Below w7.heap.size w7 w7.drew := (Below.refl _ w7).drew
            refine (bNodes (hB7.out.below hbd) (by omega)).mono ?_
            rintro e w8 ⟨v8, rfl, hf8, hB8, ho8⟩
            have ho9 : Out F w7 w8 := ⟨ho8.os.trans hbd.os, ho8.tape.trans hbd.tape, ho8.output.trans hbd.output, Nat.le_trans hbd.size ho8.size, fun b hb hF => (ho8.block b (Nat.lt_of_lt_of_le hb hbd.size) hF).trans (hbd.block b hb)⟩
            exact hK _ _ ⟨v8, by simp [updT, e5, e6], hk2.out.free rfl, ⟨ho9, hB8, (fun h => by rw [updF_self] at h; cases h), fun _ _ => by rw [updT_same]; exact hf8.rep.mono fun b h => h.2⟩⟩
          · -- operation 8
            have e5 : t 5 = .bool false := hk2 5 _ (hwt 5 (by kernel_rfl)) rfl
            replace hI := Lib.hid hI
            replace hk2 := Lib.hid hk2
            clear hwt
            refine wpOp_step rfl (fun K hK => ?_)
            go_simp
            exact hK _ _ ⟨_, by simp [updT, e5], hk2.out.at_ rfl, hI.out.same _ _ (by decide) (by decide)⟩
          · -- operation 9
            have e5 : t 5 = .bool false := hk2 5 _ (hwt 5 (by kernel_rfl)) rfl
            have e8 : t 8 = .pointer (some ⟨w2.heap.size, 0, none⟩) := hk2 8 _ (hwt 8 (by kernel_rfl)) rfl
            replace hI := Lib.hid hI
            replace hk2 := Lib.hid hk2
            clear hwt
            refine wpOp_step rfl (fun K hK => ?_)
            go_simp
            exact hK _ _ ⟨_, by simp [updT, e5, e8], hk2.out.at_ rfl, hI.out.same _ _ (by decide) (by decide)⟩
          · -- operation 10
            have e5 : t 5 = .bool false := hk2 5 _ (hwt 5 (by kernel_rfl)) rfl
            have e9 : t 9 = .slice aL6 s'.L.length cL6 := hk2 9 _ (hwt 9 (by kernel_rfl)) rfl
            have h7 := hwt 7 (by kernel_rfl)
            have hO := hI.1
            have hR := hI.2.2.2 h7 hfi
            obtain ⟨a8, c8, e8⟩ := hR.slice
            have hSm := Lib.hid (ref03Same (M3.weight s'.L + 1) (fun b => b < W2.heap.size) _ _ _ _ W2 (by omega) (fun b h => h) hR ((hr7.out.keep (fun b h => hO.block b (by have := (hG b h).1; omega) (fun e => (hF b e).2.2 h))).mono fun b h => by have := (hG b h).1; have := hO.size; omega))
            rw [M3.sameN_self, e8] at hSm
            clear hR hcl hO
            replace hk2 := Lib.hid hk2
            replace hI := Lib.hid hI
            clear hwt
            refine wpOp_step rfl (fun K hK => ?_)
            go_simp
            refine hSm.out.mono ?_
            rintro e w9 ⟨rfl, hb9⟩
            exact hK _ _ ⟨_, by simp [updT, e8, e5, e9], hk2.out.at_ rfl, ⟨hI.out.1.below hb9, hI.out.2.1.below hb9, (fun h => by rw [updF_ne _ (by decide), h7] at h; cases h), fun _ h => by rw [updF_self] at h; cases h⟩⟩
          · -- operation 11
            have e5 : t 5 = .bool false := hk2 5 _ (hwt 5 (by kernel_rfl)) rfl
            have e10 : t 10 = .bool true := hk2 10 _ (hwt 10 (by kernel_rfl)) rfl
            replace hI := Lib.hid hI
            replace hk2 := Lib.hid hk2
            clear hwt
            refine wpOp_step rfl (fun K hK => ?_)
            go_simp
            exact hK _ _ ⟨_, by simp [updT, e5, e10], hk2.out.at_ rfl, hI.out.same _ _ (by decide) (by decide)⟩
          · -- operation 12
            have e5 : t 5 = .bool false := hk2 5 _ (hwt 5 (by kernel_rfl)) rfl
            have e11 : t 11 = .bool false := hk2 11 _ (hwt 11 (by kernel_rfl)) rfl
            replace hI := Lib.hid hI
            replace hk2 := Lib.hid hk2
            clear hwt
            refine wpOp_step rfl (fun K hK => ?_)
            go_simp
            exact hK _ _ ⟨_, by simp [updT, e5, e11], hk2.out.at_ rfl, hI.out.same _ _ (by decide) (by decide)⟩
        case fin =>
          intro f t W2 hall hk2 hI
          have e12 := hk2 12 _ (hall 12 (by omega)) rfl
          have hO := hI.1
          have hB8 := Lib.hid hI.2.1
          clear hk2 hall hI
          try dsimp only
          rw [e12]
          clear e12
          have hT6' : Hid (Txs (fun b => W.heap.size ≤ b ∧ b < w7.heap.size) W2 (.slice ao s'.d co) os) := by
            have h := hT6.out
            rw [hol] at h
            exact Txs.keep h (fun b hb => hO.block b hb.2 (fun e => by have := hltF b e; have := hb.1; omega)) (fun b hb => hb)
          have hT7' : Hid (Txs (fun b => W.heap.size ≤ b ∧ b < w7.heap.size) W2 (.slice aw s'.d cw) os) := by
            have h := hT7.out
            rw [hol] at h
            exact Txs.keep h (fun b hb => hO.block b hb.2 (fun e => by have := hltF b e; have := hb.1; omega)) (fun b hb => hb)
          have hPB8 : Hid (PB w1 W2 g mb w2.heap.size s' s' (i + 1)) := by
            have hz8 := hO.size
            refine ⟨_, _, ⟨F, G, hB8.out, hr7.out.keep (fun b h => hO.block b (by have := (hG b h).1; omega) (fun e => (hF b e).2.2 h)), ?_, hF, fun b h => ⟨by have := (hG b h).1; omega, (hG b h).2⟩, hx, by omega, Out.low hb07 hO (fun b e => (hF b e).1)⟩, hBx7.out.keep (hO.block _ (by omega) (fun e => (hF _ e).2.1 rfl))⟩
            rw [hpn]
            exact Row.keep hp7.out (fun b h => hO.block b (by have := (hG b h).1; omega) (fun e => (hF b e).2.2 h))
          clear hT6 hT7 hB8 hB7 hr7 hp7 hBx7
          go_wp2_with fail
          go_loopw [8] (fun u8 wr => ∃ k : Nat, k ≤ s'.d ∧ u8 = .int .i64 (k : Int) ∧ Below W2.heap.size W2 wr) (fun u8 _ => s'.d - (intOf u8).toNat)
          case atStart => exact ⟨0, by omega, rfl, Below.refl _ _⟩
          case round =>
            obtain ⟨k, hk, rfl, hbk⟩ := hrel
            have hz8 := hO.size
            by_cases hkd : k < s'.d
            · obtain ⟨b6, o6, rfl, -, c6⟩ := txs_at (Txs.keep (w' := wr) (S' := fun _ => True) hT6'.out (fun b hb => hbk.block b (Nat.lt_of_lt_of_le hb.2 hz8)) (fun _ _ => trivial)) k (by omega)
              obtain ⟨b7, o7, rfl, -, c7⟩ := txs_at (Txs.keep (w' := wr) (S' := fun _ => True) hT7'.out (fun b hb => hbk.block b (Nat.lt_of_lt_of_le hb.2 hz8)) (fun _ _ => trivial)) k (by omega)
              have hI0 : (0 : Int) ≤ (k : Int) := by omega
              have hI1 : (k : Int) < (s'.d : Int) := by omega
              go_wp2_with fail
              go_quiet (fail)
              go_wp2_with fail
              go_roundw
              case rel => exact ⟨k + 1, by omega, by go_num, ⟨hbk.os, hbk.tape, hbk.output, hbk.size, hbk.block⟩⟩
              case measure => exact meas_nat hkd
            · obtain rfl : k = s'.d := by omega
              go_wp2_with fail
              go_roundw
              case rel => exact ⟨i + 1, by omega, by go_num, by rw [hse.out]; exact hPB8.out.below hbk⟩
              case measure => exact meas_nat hlt
    · obtain rfl : i = c.length := by omega
      have hLv := Lib.hid (fun W => lives07 W)
      have hb02 := bt hb1 hbr
      clear hL
      go_wp2_with fail
      refine (hLv.out _).mono ?_
      rintro e w6 ⟨rfl, hb6⟩
      have hb06 := bt hb02 hb6
      go_wp2_with fail
      go_ret
      exact ⟨rfl, hb06⟩
end Go.Proofs.Yteefodibpjgicaa
