/- Texts joined: Bld7, Bld8, All, RegI, Bld9, BldN, BldO. -/
import Derived.Sort.CutIn
import Derived.Test.YteefodibpjgicaaGreatS1
import Derived.Test.YteefodibpjgicaaGreatS2
import Derived.Test.YteefodibpjgicaaGreatS3
import Derived.Test.YteefodibpjgicaaGreatS4
import Derived.Test.YteefodibpjgicaaGreatS5
import Derived.Test.YteefodibpjgicaaGreatS6
namespace Go.Proofs.YteefodibpjgicaaGreat
open Go.RowKit Go.Maps
def Closing (t : Tok) (s : M7.St) (o : List ByteArray) (fs : List FV) (d : Nat) : Prop := M7.closeAt o t.name s.d = M7.closeAt (namesW fs) t.name d
theorem Closing.next {t : Tok} {s : M7.St} {o : List ByteArray} {A : List FV} {p f p' : FV} {d : Nat} (h : Closing t s o ((A ++ [p]) ++ [f]) d) (hd : d = A.length + 1) (hn : namesW ((A ++ [p]) ++ [f]) = namesW (A ++ [p']) ++ [f.x.name]) (hc : M6.closesB f.x.name.data.toList t.name.data.toList = true) : Closing t s o (A ++ [p']) (d - 1) := by
  have hl : (namesW (A ++ [p'])).length = A.length := by rw [namesW_len]; simp
  unfold Closing at h ⊢
  rw [h, hn, hd, ← hl, M7.close_snoc, if_pos hc]
  rfl
theorem Closing.stop {t : Tok} {s : M7.St} {o : List ByteArray} {A : List FV} {p f : FV} {d : Nat} (h : Closing t s o ((A ++ [p]) ++ [f]) d) (hd : d = A.length + 1) (hc : M6.closesB f.x.name.data.toList t.name.data.toList = false) : M7.closeAt o t.name s.d = d := by
  have hl : (namesW (A ++ [p])).length = A.length := by rw [namesW_len]; simp
  unfold Closing at h
  rw [h, namesW_snoc (by simp), hd, ← hl, M7.close_snoc, if_neg (by rw [hc]; decide)]
def closedS (s : M7.St) (t : Tok) : M7.St := ⟨s.L, M7.closeAt (M7.openN s.d s.L) t.name s.d⟩
theorem look_int {P : Program} {w : World} {b n : Nat} {D : DataW Unit} {t k e : TypeId} {q : IntKind} (h : w.ownsMap P k (plainElem P e) b n D) (K : Keyed P k) (ht : P.underlying t = some (.map k e)) (he : P.underlying e = some (.int q))
    (hz : (zeroValue e).run P w = .ok (.int q 0) w) {key : Value} {kl : Lit} (hkey : keyOf P k key = some kl) {c : Int} (hc : D.atKey kl (.lit (.int q 0)) = .lit (.int q c)) :
    (Instr.lookup t (.map (some b)) key false).run P w = .ok (.int q c) w := by
  have hw0 : (Lit.int q 0).wf = true := by cases q <;> decide
  obtain ⟨v, ps, hrun, hv⟩ := h.lookup K ht hz (plainElem_int he hw0) hkey
  obtain ⟨c', rfl, h2, _⟩ := plainElem_int_inv he hv
  simp only [Prod.mk.injEq] at h2
  rw [h2.1] at hc
  cases hc
  exact hrun
theorem Shutting.below {F : Nat → Prop} {w W W' : World} {g mb : Nat} {s : M7.St} {o : List ByteArray} {q : Nat} {vo vt pt : Value} {fs : List FV} {tx : List UInt8} {n : Nat} {D : DataW Unit} {d : Nat} (h : Shutting F w g mb s o q W vo vt pt fs tx n D d) (hb : Below W.heap.size W W') : Shutting F w g mb s o q W' vo vt pt fs tx n D d :=
  ⟨(h.bld.grow hb).grw2 h.out.size hb.size, h.inv, h.out.below hb, h.pre⟩
def Reach (F : Nat → Prop) (w W : World) (g mb : Nat) (vo vt pt : Value) (fs : List FV) (tx : List UInt8) (n : Nat) (D : DataW Unit) : Prop := Bld (grw F w W) W g mb vo vt pt fs tx n D ∧ Out F w W
theorem Reach.step {F : Nat → Prop} {w W W1 : World} {g mb : Nat} {vo vt pt vo1 vt1 pt1 : Value} {fs fs1 : List FV} {tx tx1 : List UInt8} {n n1 : Nat} {D D1 : DataW Unit} (h : Reach F w W g mb vo vt pt fs tx n D) (k : BSt (grw F w W) W g mb vo vt fs W1 vo1 vt1 pt1 fs1 tx1 n1 D1) : Reach F w W1 g mb vo1 vt1 pt1 fs1 tx1 n1 D1 :=
  ⟨k.1.grw2 h.2.size k.2.1.size, h.2.trans k.2.1⟩
theorem Reach.start {F : Nat → Prop} {w w0 W : World} {g mb : Nat} {vo vt pt : Value} {fs : List FV} {tx : List UInt8} {n : Nat} {D : DataW Unit} (h : Reach F w0 W g mb vo vt pt fs tx n D) (hb : Below w.heap.size w w0) (hlt : ∀ b, F b → b < w.heap.size) : Reach F w W g mb vo vt pt fs tx n D := by
  have hz := hb.size
  have hz1 := h.2.size
  exact ⟨h.1.keep (fun b hb => hb.elim .inl (fun e => .inr ⟨by omega, e.2⟩)) (grw_lt hlt (by omega)) (fun _ _ => rfl), ⟨h.2.os.trans hb.os, h.2.tape.trans hb.tape, h.2.output.trans hb.output, by omega, fun b hb' hF => (h.2.block b (by omega) hF).trans (hb.block b hb')⟩⟩
theorem idle_grw {F : Nat → Prop} {w w1 w2 : World} {g mb : Nat} {vo vt : Value} {fs : List FV} {x : Nd} {va vk : Value} {W : World} (h : RepV (idleB (grw (grw F w w1) w1 w2) g mb vo vt fs) W x va vk) (h1 : w.heap.size ≤ w1.heap.size) (h2 : w1.heap.size ≤ w2.heap.size) : RepV (idleB (grw F w w2) g mb vo vt fs) W x va vk :=
  RepV.mono h (fun b hb => ⟨(grw_grw h1 h2 b).1 hb.1, hb.2⟩)
theorem infoE : (Tryz.prog.info? 189).map (fun i => (i.zero, i.size, i.bytes)) = some (some (.agg #[.int .i64 0, .string ⟨#[]⟩, .slice none 0 0, .string ⟨#[]⟩, .slice none 0 0, .int .i64 0]), 6, 96) := by kernel_rfl
set_option maxHeartbeats 8000000 in
set_option maxRecDepth 100000 in
theorem bBegin {F : Nat → Prop} {w : World} {g mb q : Nat} {s : M7.St} {tk : Tok} {va : Value} {S : Nat → Prop} (h : BS F w g mb s q) (hq : q ≤ 400000) (ht : FitT tk) (hS : ∀ b, S b → b < w.heap.size ∧ ¬ F b) (hat : Row S w 2 va tk.attrs.length (cellsA tk.attrs)) :
    Calls Tryz.prog 213 #[.pointer (some ⟨g, 0, none⟩), tk.val va] w (BStep F w g mb ⟨M7.putN (closedS s tk).d (M7.elT tk) s.L, if M3.voidB tk.name.data.toList then (closedS s tk).d else (closedS s tk).d + 1⟩ (q + tokQ tk)) := by
  obtain ⟨av, cv, rfl⟩ := hat.slice
  obtain ⟨vo, vt, pt, fs, tx, n, D, hB, hI⟩ := h
  have hnames := hI.names
  obtain ⟨s1, hs1⟩ : ∃ x, Hid (x = closedS s tk) := ⟨_, rfl⟩
  rw [← hs1.out]
  obtain ⟨s2, hs2⟩ : ∃ x, Hid (x = (⟨M7.putN s1.d (M7.elT tk) s.L, if M3.voidB tk.name.data.toList then s1.d else s1.d + 1⟩ : M7.St)) := ⟨_, rfl⟩
  rw [← hs2.out]
  have hts := ht.1
  have hta := ht.2.2
  have bz := Box.new w 87 [.int .i64 tk.kind, .string tk.name, .slice av tk.attrs.length cv, .string tk.text]
  have hb0 : Below w.heap.size w (w.alloc (.cells #[.int .i64 tk.kind, .string tk.name, .slice av tk.attrs.length cv, .string tk.text] 87)) := (Below.refl _ w).alloc (Nat.le_refl _) _
  change Box (w.alloc (.cells #[.int .i64 tk.kind, .string tk.name, .slice av tk.attrs.length cv, .string tk.text] 87)) _ _ _ at bz
  have hsz : (w.alloc (.cells #[.int .i64 tk.kind, .string tk.name, .slice av tk.attrs.length cv, .string tk.text] 87)).heap.size = w.heap.size + 1 := by simp
  have hlt := hB.lt
  have hsh : Shutting F (w.alloc (.cells #[.int .i64 tk.kind, .string tk.name, .slice av tk.attrs.length cv, .string tk.text] 87)) g mb s (namesW fs) q (w.alloc (.cells #[.int .i64 tk.kind, .string tk.name, .slice av tk.attrs.length cv, .string tk.text] 87)) vo vt pt fs tx n D s.d :=
    ⟨(hB.below hb0).same_grw.1, hI, Out.refl _ _, ⟨[], by simp⟩⟩
  have hcl : Closing tk s (namesW fs) fs s.d := rfl
  have hS1 : s1 = ⟨s.L, M7.closeAt (namesW fs) tk.name s.d⟩ := by rw [hs1.out]; unfold closedS; rw [hnames]
  have hat0 := hat.keep (w' := w.alloc (.cells #[.int .i64 tk.kind, .string tk.name, .slice av tk.attrs.length cv, .string tk.text] 87)) (fun b hb => hb0.block b (hS b hb).1)
  replace hsh := Lib.hid hsh
  replace hcl := Lib.hid hcl
  replace hS1 := Lib.hid hS1
  replace bz := Lib.hid bz
  replace hS := Lib.hid hS
  replace hat0 := Lib.hid hat0
  replace hlt := Lib.hid hlt
  clear hI hB hnames hs1 hat
  go_enter Tryz.func213, Tryz.ntmps213
  go_wp2_with fail
  obtain ⟨w0, hw0⟩ : ∃ W, (w.alloc (.cells #[.int .i64 tk.kind, .string tk.name, .slice av tk.attrs.length cv, .string tk.text] 87)) = W := ⟨_, rfl⟩
  rw [hw0] at hsh bz hb0 hat0 hsz ⊢
  clear hw0
  go_loopw [5] (fun u5 wr => ∃ vo vt pt fs' tx n D d, Shutting F w0 g mb s (namesW fs) q wr vo vt pt fs' tx n D d ∧ Closing tk s (namesW fs) fs' d) (fun u5 wr => lenOf wr g)
  case atStart => exact ⟨_, _, _, _, _, _, _, _, hsh.out, hcl.out⟩
  case round =>
    obtain ⟨vo1, vt1, pt1, fs1, tx1, n1, D1, d1, hk, hc⟩ := hrel
    obtain ⟨go, cap, hvo, hcl2, hcm2, -⟩ := hk.bld.open_slice hk.inv.ne
    have k0 := hk.bld.box.cell (i := 0) rfl
    rw [hvo] at k0
    have bzr := bz.out.keep (w' := wr) (hk.out.block w.heap.size (by omega) (fun e => by have := hlt.out _ e; omega))
    have z1 := bzr.cell (i := 1) rfl
    have hwr := hk.out.size
    clear hsh hcl
    obtain ⟨A, f, rfl⟩ := hk.inv.snoc
    have hll : (A ++ [f]).length = A.length + 1 := by simp
    have hvo1 : vo1 = .slice (some ⟨go, 0, none⟩) (A.length + 1) cap := by rw [hvo]; simp
    rw [hll] at k0 hvo
    have hd1 : d1 = A.length := hk.inv.d
    have hfq := hk.inv.fsq
    rw [hll] at hfq
    obtain ⟨c1, -⟩ := hk.bld.last_cell hvo1 1 (.string f.x.name) (by decide) rfl
    have hfn : A ≠ [] → f.x.name.size ≤ 1048576 := fun hA => by
      obtain ⟨j, hj⟩ : ∃ j, A.length = j + 1 := ⟨A.length - 1, by have := List.length_pos_iff.2 hA; omega⟩
      exact (hk.inv.el j f (by rw [← hj, List.getElem?_append_right (Nat.le_refl _), Nat.sub_self]; rfl)).2.2
    have hs1 : (A = [] ∨ M6.closesB f.x.name.data.toList tk.name.data.toList = false) → s1 = ⟨s.L, d1⟩ := fun ho => by
      rw [hS1.out]
      congr 1
      rcases ho with rfl | ho
      · have h := hc
        unfold Closing at h
        rw [h, hd1]; rfl
      · rcases List.eq_nil_or_concat A with rfl | ⟨A', p, rfl⟩
        · have h := hc
          unfold Closing at h
          rw [h, hd1]; rfl
        · rw [List.concat_eq_append] at hc hd1
          exact hc.stop (by rw [hd1]; simp) ho
    generalize hcb : M6.closesB f.x.name.data.toList tk.name.data.toList = cb at *
    have hCl : Hid (A ≠ [] → ∀ W, Calls Tryz.prog 219 #[.string f.x.name, .string tk.name] W fun e w' => e = .returned (.bool cb) ∧ Below W.heap.size W w') := fun hA W => by
      have := modCloses f.x.name tk.name W (by have := hfn hA; omega)
      rw [hcb] at this
      exact this
    replace hk := Lib.hid hk
    replace hc := Lib.hid hc
    replace hcb := Lib.hid hcb
    replace hs1 := Lib.hid hs1
    replace hfn := Lib.hid hfn
    replace hvo1 := Lib.hid hvo1
    clear bzr hcl2 hcm2
    go_upto_region 1 with fail
    go_cut [21] from 5 to 21 (fun u21 wx => u21 = .bool (!A.isEmpty && cb) ∧ Below wr.heap.size wr wx)
    case first =>
      rcases List.eq_nil_or_concat A with hA | ⟨A', p, hA⟩
      · subst hA
        go_wp2_with fail
        go_region
        go_wp2_with fail
        go_meet
        case rel => exact ⟨rfl, (Below.refl _ wr).drew⟩
      · have hAn : A ≠ [] := by rw [hA]; simp
        have hAe : (!A.isEmpty && cb) = cb := by rw [hA]; simp
        have hg1 : decide ((1 : Int) < (A.length : Int) + 1) = true := decide_eq_true (by have := List.length_pos_iff.2 hAn; omega)
        have hg2 : (1 : Int) < (A.length : Int) + 1 := by have := List.length_pos_iff.2 hAn; omega
        have hA6 : A.length ≤ 1000000 := by omega
        replace hAe := Lib.hid hAe
        clear hA
        go_wp2_with fail
        go_region_law
          (first
            | (go_simp; go_at_call 220; refine (bInner (go := go) (cap := cap) (by first | assumption | (simp [*, World.cell?_alloc_some])) hA6).mono ?_; rintro e w' ⟨rfl, rfl⟩)
            | (go_simp; go_at_call 219; refine (hCl.out hAn _).mono ?_; rintro e w2 ⟨rfl, hb2⟩; replace hb2 := Lib.hid hb2))
        all_goals
          have hb2' : Below wr.heap.size wr w2 := ⟨hb2.out.os, hb2.out.tape, hb2.out.output, hb2.out.size, hb2.out.block⟩
          clear hb2
          go_wp2_with fail
          go_meet
          case rel => exact ⟨by rw [hAe.out], hb2'⟩
    case rest =>
      obtain ⟨rfl, hbx⟩ := hcut
      have hk2 := hk.out.below hbx
      generalize hbb : (!A.isEmpty && cb) = bb at *
      cases bb
      · have hs1' : s1 = ⟨s.L, d1⟩ := hs1.out (by
          cases A with
          | nil => exact .inl rfl
          | cons a A => right; simpa using hbb)
        have hkc := hk2
        replace hs1' := Lib.hid hs1'
        clear hk2 hk hc hcb hs1 hbb hCl hfn z1 k0 c1 hbx hd1
        have hzx := hkc.out.size
        have bzx := bz.out.keep (w' := wc) (hkc.out.block w.heap.size (by omega) (fun e => by have := hlt.out _ e; omega))
        have y1 := bzx.cell (i := 1) rfl
        have y2 := bzx.cell (i := 2) rfl
        have hatx := hat0.out.keep (w' := wc) (fun b hb => hkc.out.block b (by have := (hS.out b hb).1; omega) (hS.out b hb).2)
        have hBg := bBegun S tk.name tk.attrs (.slice av tk.attrs.length cv) (.slice none 0 0) wc hatx (fun b hb => by have := (hS.out b hb).1; omega) ⟨_, _, _, rfl⟩ (by omega)
        replace hkc := Lib.hid hkc
        replace bzx := Lib.hid bzx
        replace hBg := Lib.hid hBg
        clear hatx
        go_wp2_with fail
        refine hBg.out.mono ?_
        rintro e w3 ⟨va3, rfl, hown3, hb3⟩
        obtain ⟨a3, c3, rfl⟩ := own_sliceW hown3
        have hzx3 := hb3.size
        have r3 : Reach F w0 w3 g mb _ _ _ _ _ _ _ := Reach.step ⟨hkc.out.bld, hkc.out.out⟩ (hkc.out.bld.st_below hb3)
        have hg3 : RepV (idleB (grw F w0 w3) g mb vo1 vt1 (A ++ [f])) w3 (M7.elT tk) (.slice a3 tk.attrs.length c3) (.slice none 0 0) := by
          refine ⟨Row.own hown3 (fun c hc => ⟨.inr ⟨by have := (hown3.lt c hc).1; omega, (hown3.lt c hc).2⟩, fun i e => ?_⟩), RepN.nil _ _⟩
          have := hkc.out.bld.role_lt e
          have := (hown3.lt c hc).1
          omega
        have bz3 := bzx.out.below hb3 bzx.out.lt
        replace r3 := Lib.hid r3
        replace hg3 := Lib.hid hg3
        replace bz3 := Lib.hid bz3
        clear y1 y2 hBg hown3
        go_upto_region 4 with fail
        have hb4 : Below w3.heap.size w3 (w3.alloc (.cells #[.int .i64 1, .string tk.name, .slice a3 tk.attrs.length c3, .string ⟨#[]⟩, .slice none 0 0] 41)) := (Below.refl _ w3).alloc (Nat.le_refl _) _
        have bn4 := Box.new w3 41 [.int .i64 1, .string tk.name, .slice a3 tk.attrs.length c3, .string ⟨#[]⟩, .slice none 0 0]
        change Box (w3.alloc (.cells #[.int .i64 1, .string tk.name, .slice a3 tk.attrs.length c3, .string ⟨#[]⟩, .slice none 0 0] 41)) _ _ _ at bn4
        obtain ⟨w4, hw4⟩ : ∃ W, (w3.alloc (.cells #[.int .i64 1, .string tk.name, .slice a3 tk.attrs.length c3, .string ⟨#[]⟩, .slice none 0 0] 41)) = W := ⟨_, rfl⟩
        have hz4 : w4.heap.size = w3.heap.size + 1 := by rw [← hw4]; simp
        rw [hw4] at hb4 bn4 ⊢
        have bz4 := bz3.out.below hb4 bz3.out.lt
        have y1 : w4.cell? ⟨w.heap.size, 1, none⟩ = some (.string tk.name) := bz4.cell (i := 1) rfl
        have hV := Lib.hid (fun W => domVoid tk.name W)
        have hF3 : ∀ b, grw F w0 w3 b → b < w3.heap.size := r3.out.1.lt
        have hB4 := r3.out.1.below hb4
        have hg4 : RepV (idleB (grw F w0 w3) g mb vo1 vt1 (A ++ [f])) w4 (M7.elT tk) (.slice a3 tk.attrs.length c3) (.slice none 0 0) := hg3.out.keep (fun b hb => hb4.block b (hF3 b hb.1))
        have hkl := hkc.out.inv.kids_le f (by simp)
        have hfs := hkc.out.inv.fsq
        rw [hll] at hfs
        have hn4 : w.heap.size < w3.heap.size := bz3.out.lt
        replace hF3 := Lib.hid hF3
        replace hB4 := Lib.hid hB4
        replace hg4 := Lib.hid hg4
        replace bn4 := Lib.hid bn4
        replace bz4 := Lib.hid bz4
        replace hb4 := Lib.hid hb4
        clear hw4
        generalize hvb : M3.voidB tk.name.data.toList = vb at *
        go_wp2_with fail
        refine (hV.out _).mono ?_
        rintro e w4' ⟨rfl, hw4'⟩
        rw [hw4']
        clear hw4' y1
        cases vb
        · have he2 : s2 = ⟨M7.putN d1 (M7.elT tk) s.L, d1 + 1⟩ := by rw [hs2.out, hs1'.out]; simp
          have hSt := Lib.hid (bSettle hB4.out (by omega) (by omega))
          have hmp := (hkc.out.inv.map tk.name).2
          have hPle := M7.plc_le (namesW (A ++ [f])) tk.name d1
          have hdl : d1 = A.length := hkc.out.inv.d
          obtain ⟨P, hP⟩ : ∃ P, P = M7.plc (namesW (A ++ [f])) tk.name d1 := ⟨_, rfl⟩
          rw [← hP] at hPle
          change _ = DataW.lit (.int .i64 ((M7.plc (namesW (A ++ [f])) tk.name d1 : Nat) : Int)) at hmp
          rw [← hP] at hmp
          replace hmp := Lib.hid hmp
          replace hP := Lib.hid hP
          replace he2 := Lib.hid he2
          go_wp2_with fail
          refine hSt.out.mono ?_
          rintro e w5 ⟨rfl, vt5, pt5, f5, hx5, hn5, s5⟩
          have s5' := s5.start hb4.out hF3.out
          have r5 : Reach F w0 w5 g mb vo1 vt5 pt5 (A ++ [f5]) [] _ _ := r3.out.step s5'
          have hg5 := idle_grw (s5'.2.2.rep hg3.out) (by omega) s5'.2.1.size
          have hz5 := s5.2.1.size
          have bn5 := bn4.out.keep (w' := w5) (s5.2.1.block w3.heap.size (by omega) (fun e => by have := hF3.out _ e; omega))
          have hnw : ∀ W, w0.heap.size ≤ W.heap.size → ¬ grw F w0 W w.heap.size := fun W _ e => e.elim (fun e => by have := hlt.out _ e; omega) (fun e => by omega)
          have bz5 := bz4.out.keep (w' := w5) (s5.2.1.block w.heap.size (by omega) (hnw w3 (by omega)))
          have k0 := r5.1.box.cell (i := 0) rfl
          have k3 := r5.1.box.cell (i := 3) rfl
          rw [hvo1.out] at k0
          have n0 := bn5.cell (i := 0) rfl
          have n1 := bn5.cell (i := 1) rfl
          have n2 := bn5.cell (i := 2) rfl
          have n3 := bn5.cell (i := 3) rfl
          have n4 := bn5.cell (i := 4) rfl
          have y1 : w5.cell? ⟨w.heap.size, 1, none⟩ = some (.string tk.name) := bz5.cell (i := 1) rfl
          have hkey : keyOf Tryz.prog 9 (.string tk.name) = some (keyN tk.name) := WideMaps.keyOf_string_mk Tryz.underlying9 (s := tk.name) (by unfold maxLen; omega)
          have hrun := look_int (P := Tryz.prog) r5.1.drew.map keySS Tryz.underlying191 Tryz.underlying3 (Tryz.zeroValue3 _) hkey hmp.out
          have hgo : g ≠ go := fun e => by
            have := r5.1.inj 0 2 g rfl (by rw [hvo1.out, e]; rfl); omega
          have hgl := r5.1.box.lt
          have fg0 := r5.1.box.free 0
          have o5 := r5.1.row
          rw [hvo1.out, show (A ++ [f5]).length = A.length + 1 by simp] at o5
          have hone : ∀ u ∈ ([.int .i64 1, .string tk.name, .slice a3 tk.attrs.length c3, .string ⟨#[]⟩, .slice none 0 0, .int .i64 (P : Int)] : List Value), u.oneCell' = true := by simp [Value.oneCell']
          have hngo : (Value.slice (some ⟨go, 0, none⟩) (A.length + 1) cap).ownBlock ≠ some g := fun e => hgo (by have e : go = g := Option.some.inj e; exact e.symm)
          obtain ⟨j0, hj0, hj00, hj01, hj02⟩ := info_parts infoE
          replace r5 := Lib.hid r5
          replace hg5 := Lib.hid hg5
          replace s5' := Lib.hid s5'
          replace bz5 := Lib.hid bz5
          replace hx5 := Lib.hid hx5
          replace hn5 := Lib.hid hn5
          replace hnw := Lib.hid hnw
          have bn5' := Lib.hid bn5
          clear s5 bn5 hSt hB4 hg4 hg3 bz4 bz3 bn4 r3 hat0 bz
          go_upto_region 7 with fail
          obtain ⟨gg, c2, w6, hrunA, hown6, hgrow, hat6, hlt6⟩ := run_append_lies (P := Tryz.prog) (w := (w5.alloc (.cells #[.int .i64 1, .string tk.name, .slice a3 tk.attrs.length c3, .string ⟨#[]⟩, .slice none 0 0, .int .i64 (P : Int)] 189)).drew) 190 190 0 189 j0 _ 6 96 Tryz.underlying190 hj0 hj00 hj01 hj02 rfl (by omega) (.slice (some ⟨go, 0, none⟩) (A.length + 1) cap) (A.length + 1) (cellsF (A ++ [f5])) ((o5.alloc _).drew) ⟨w5.heap.size, 0, none⟩ 1 1 [.int .i64 1, .string tk.name, .slice a3 tk.attrs.length c3, .string ⟨#[]⟩, .slice none 0 0, .int .i64 (P : Int)] (by rfl) (World.news_of_block (cs := #[.int .i64 1, .string tk.name, .slice a3 tk.attrs.length c3, .string ⟨#[]⟩, .slice none 0 0, .int .i64 (P : Int)]) (t := 189) (fr := (0, 0)) (heap_alloc_new w5 _)) hone (by omega) (by unfold maxLen; omega) (by omega) (by simp) (w5.heap.size + 1) (by simp)
          have f6 : w6.frozen? ⟨g, 0, none⟩ = false := (hgrow.frozen_far ⟨g, 0, none⟩ (Nat.lt_of_lt_of_le hgl (by simp)) (Ne.symm hngo)).trans ((frozen_alloc7 hgl).trans fg0)
          have k6 : w6.cell? ⟨g, 0, none⟩ = some (.slice (some ⟨go, 0, none⟩) (A.length + 1) cap) := (hgrow.cell_far ⟨g, 0, none⟩ (Nat.lt_of_lt_of_le hgl (by simp)) (Ne.symm hngo)).trans ((World.cell?_of_block (a := ⟨g, 0, none⟩) (Below.heap_alloc w5 _ g hgl)).trans k0)
          replace hown6 := Lib.hid hown6
          replace hgrow := Lib.hid hgrow
          replace hat6 := Lib.hid hat6
          have hw57 : ∀ W, (W = w5.drew ∨ W = (w5.alloc (.cells #[.int .i64 1, .string tk.name, .slice a3 tk.attrs.length c3, .string ⟨#[]⟩, .slice none 0 0, .int .i64 (P : Int)] 189)).drew) → Below w5.heap.size w5 W := fun W h => by
            rcases h with rfl | rfl
            · exact (Below.refl _ w5).drew
            · exact ((Below.refl _ w5).alloc (Nat.le_refl _) _).drew
          have hcells : ∀ W, (W = w5.drew ∨ W = (w5.alloc (.cells #[.int .i64 1, .string tk.name, .slice a3 tk.attrs.length c3, .string ⟨#[]⟩, .slice none 0 0, .int .i64 (P : Int)] 189)).drew) → W.cell? ⟨g, 0, none⟩ = some (.slice (some ⟨go, 0, none⟩) (A.length + 1) cap) ∧ W.cell? ⟨g, 3, none⟩ = some (.map (some mb)) ∧ W.cell? ⟨w.heap.size, 1, none⟩ = some (.string tk.name) ∧
              W.cell? ⟨w3.heap.size, 0, none⟩ = some (.int .i64 1) ∧ W.cell? ⟨w3.heap.size, 1, none⟩ = some (.string tk.name) ∧ W.cell? ⟨w3.heap.size, 2, none⟩ = some (.slice a3 tk.attrs.length c3) ∧ W.cell? ⟨w3.heap.size, 3, none⟩ = some (.string ⟨#[]⟩) ∧ W.cell? ⟨w3.heap.size, 4, none⟩ = some (.slice none 0 0) ∧
              (Instr.lookup 191 (.map (some mb)) (.string tk.name) false).run Tryz.prog W = .ok (.int .i64 (P : Int)) W := fun W h => by
            have hb := hw57 W h
            have hB := r5.out.1.below hb
            have k0' := hB.box.cell (i := 0) rfl
            rw [hvo1.out] at k0'
            have bn' := bn5'.out.below hb bn5'.out.lt
            have bz' := bz5.out.below hb bz5.out.lt
            exact ⟨k0', hB.box.cell (i := 3) rfl, bz'.cell (i := 1) rfl, bn'.cell (i := 0) rfl, bn'.cell (i := 1) rfl, bn'.cell (i := 2) rfl, bn'.cell (i := 3) rfl, bn'.cell (i := 4) rfl, look_int (P := Tryz.prog) hB.map keySS Tryz.underlying191 Tryz.underlying3 (Tryz.zeroValue3 _) hkey hmp.out⟩
          have mixed : Tryz.prog.follows Departure.mixedOrders = true := by kernel_rfl
          clear hw57 n0 n1 n2 n3 n4 k0 k3 y1 hrun
          refine wp_region_knownC (n := 19) ([some (Value.pointer (some ⟨g, 0, none⟩)), some (Value.pointer (some ⟨g, 0, none⟩)), some (.pointer (some ⟨g, 0, none⟩)), some (.pointer (some ⟨g, 0, none⟩)), some (.slice (some ⟨go, 0, none⟩) (A.length + 1) cap), some (.agg #[.int .i64 1, .string tk.name, .slice a3 tk.attrs.length c3, .string ⟨#[]⟩, .slice none 0 0]), some (Value.pointer (some ⟨g, 0, none⟩)), some (.pointer (some ⟨g, 0, none⟩)), some (.pointer (some ⟨g, 3, none⟩)), some (.map (some mb)), some (.pointer (some ⟨w.heap.size, 1, none⟩)), some (.string tk.name), some (.int .i64 (P : Int)), some (.agg #[.int .i64 1, .string tk.name, .slice a3 tk.attrs.length c3, .string ⟨#[]⟩, .slice none 0 0, .int .i64 (P : Int)]), some (.slice (some ⟨w5.heap.size, 0, none⟩) 1 1), some (.slice (some ⟨gg, 0, none⟩) (A.length + 1 + 1) c2), some (.pointer (some ⟨g, 0, none⟩)), some (.pointer (some ⟨g, 0, none⟩)), none] : List (Option Value)) (fun t => ⟨#[Value.pointer (some ⟨g, 0, none⟩), tk.val (Value.slice av tk.attrs.length cv), undef, Value.pointer (some ⟨w.heap.size, 0, none⟩), Value.pointer (some ⟨w3.heap.size, 0, none⟩), u5, u6, u7, u8, u9, u10, u11, u12, u13, u14, u15, u16, u17, u18, u19, u20, Value.bool false, u22, u23, Value.pointer (some ⟨w.heap.size, 1, none⟩), Value.string tk.name, Value.pointer (some ⟨w.heap.size, 2, none⟩), Value.slice av tk.attrs.length cv, Value.agg #[Value.int IntKind.i64 1, Value.string tk.name, Value.slice a3 tk.attrs.length c3, Value.string { data := #[] }, Value.slice none 0 0], Value.pointer (some ⟨w.heap.size, 1, none⟩), Value.string tk.name, Value.bool false, undef, undef, undef, Value.pointer (some ⟨g, 0, none⟩), Value.tuple #[], t 0, t 1, t 2, t 3, t 4, t 5, t 6, t 7, t 8, t 9, t 10, t 11, t 12, t 13, t 14, t 15, t 16, t 17, undef, undef, undef, undef, undef, undef, undef, undef, undef, undef, undef, undef], []⟩) (fun f t W => PuI 14 15 18 w5.drew (w5.alloc (.cells #[.int .i64 1, .string tk.name, .slice a3 tk.attrs.length c3, .string ⟨#[]⟩, .slice none 0 0, .int .i64 (P : Int)] 189)).drew w6 (w6.setCell ⟨g, 0, none⟩ (.slice (some ⟨gg, 0, none⟩) (A.length + 1 + 1) c2)) f W) (fun j => match j with | 0 => undef | 1 => undef | 2 => undef | 3 => undef | 4 => undef | 5 => undef | 6 => undef | 7 => undef | 8 => undef | 9 => undef | 10 => undef | 11 => undef | 12 => undef | 13 => undef | 14 => undef | 15 => undef | 16 => undef | 17 => undef | _ => undef) (by kernel_rfl) (by rfl) (by rfl) (by kernel_rfl) rfl ?i0 ?step ?fin
          case i0 =>
            exact PuI.start 19 (by decide) (by decide) (by decide)
          case step =>
            intro j0 hj0 f t W hfi hwt hcl hk2 hI
            have hdone : f 15 = true → ∀ j, 1 ≤ j → j < 15 → f j = true := fun q15 j h1 h2 => by
              have q4 := hcl 15 4 (by kernel_rfl) q15
              have q3 := hcl 4 3 (by kernel_rfl) q4
              have q2 := hcl 3 2 (by kernel_rfl) q3
              have q1 := hcl 2 1 (by kernel_rfl) q2
              have q14 := hcl 15 14 (by kernel_rfl) q15
              have q13 := hcl 14 13 (by kernel_rfl) q14
              have q5 := hcl 13 5 (by kernel_rfl) q13
              have q12 := hcl 13 12 (by kernel_rfl) q13
              have q9 := hcl 12 9 (by kernel_rfl) q12
              have q11 := hcl 12 11 (by kernel_rfl) q12
              have q8 := hcl 9 8 (by kernel_rfl) q9
              have q7 := hcl 8 7 (by kernel_rfl) q8
              have q6 := hcl 7 6 (by kernel_rfl) q7
              have q10 := hcl 11 10 (by kernel_rfl) q11
              obtain rfl | rfl | rfl | rfl | rfl | rfl | rfl | rfl | rfl | rfl | rfl | rfl | rfl | rfl : j = 1 ∨ j = 2 ∨ j = 3 ∨ j = 4 ∨ j = 5 ∨ j = 6 ∨ j = 7 ∨ j = 8 ∨ j = 9 ∨ j = 10 ∨ j = 11 ∨ j = 12 ∨ j = 13 ∨ j = 14 := by omega
              all_goals assumption
            have hnot : 1 ≤ j0 → j0 < 15 → f 15 = false := fun h1 h2 => Bool.eq_false_iff.2 (fun h => by rw [hdone h j0 h1 h2] at hfi; cases hfi)
            have h1815 : f 18 = true → f 15 = true := hcl 18 15 (by kernel_rfl)
            clear hcl
            obtain rfl | rfl | rfl | rfl | rfl | rfl | rfl | rfl | rfl | rfl | rfl | rfl | rfl | rfl | rfl | rfl | rfl | rfl | rfl : j0 = 0 ∨ j0 = 1 ∨ j0 = 2 ∨ j0 = 3 ∨ j0 = 4 ∨ j0 = 5 ∨ j0 = 6 ∨ j0 = 7 ∨ j0 = 8 ∨ j0 = 9 ∨ j0 = 10 ∨ j0 = 11 ∨ j0 = 12 ∨ j0 = 13 ∨ j0 = 14 ∨ j0 = 15 ∨ j0 = 16 ∨ j0 = 17 ∨ j0 = 18 := by omega
            · -- operation 0
              try (have h15 := hnot (by decide) (by decide); have hcw := hcells W (hI.early h15); obtain ⟨s0, s3, s1, n0, n1, n2, n3, n4, hlk⟩ := hcw)
              replace hI := Lib.hid hI
              replace hk2 := Lib.hid hk2
              clear hwt
              refine wpOp_step rfl (fun K hK => ?_)
              go_simp
              exact hK _ _ ⟨_, by simp [updT], hk2.out.at_ rfl, hI.out.same _ (by decide) (by decide) (by decide)⟩
            · -- operation 1
              try (have h15 := hnot (by decide) (by decide); have hcw := hcells W (hI.early h15); obtain ⟨s0, s3, s1, n0, n1, n2, n3, n4, hlk⟩ := hcw)
              replace hI := Lib.hid hI
              replace hk2 := Lib.hid hk2
              clear hwt
              refine wpOp_step rfl (fun K hK => ?_)
              go_simp
              exact hK _ _ ⟨_, by simp [updT], hk2.out.at_ rfl, hI.out.same _ (by decide) (by decide) (by decide)⟩
            · -- operation 2
              have e1 : t 1 = Value.pointer (some ⟨g, 0, none⟩) := hk2 1 _ (hwt 1 (by kernel_rfl)) rfl
              try (have h15 := hnot (by decide) (by decide); have hcw := hcells W (hI.early h15); obtain ⟨s0, s3, s1, n0, n1, n2, n3, n4, hlk⟩ := hcw)
              replace hI := Lib.hid hI
              replace hk2 := Lib.hid hk2
              clear hwt
              refine wpOp_step rfl (fun K hK => ?_)
              go_simp
              exact hK _ _ ⟨_, by simp [updT, e1], hk2.out.at_ rfl, hI.out.same _ (by decide) (by decide) (by decide)⟩
            · -- operation 3
              have e2 : t 2 = .pointer (some ⟨g, 0, none⟩) := hk2 2 _ (hwt 2 (by kernel_rfl)) rfl
              try (have h15 := hnot (by decide) (by decide); have hcw := hcells W (hI.early h15); obtain ⟨s0, s3, s1, n0, n1, n2, n3, n4, hlk⟩ := hcw)
              replace hI := Lib.hid hI
              replace hk2 := Lib.hid hk2
              clear hwt
              refine wpOp_step rfl (fun K hK => ?_)
              go_simp
              exact hK _ _ ⟨_, by simp [updT, e2], hk2.out.at_ rfl, hI.out.same _ (by decide) (by decide) (by decide)⟩
            · -- operation 4
              have e3 : t 3 = .pointer (some ⟨g, 0, none⟩) := hk2 3 _ (hwt 3 (by kernel_rfl)) rfl
              try (have h15 := hnot (by decide) (by decide); have hcw := hcells W (hI.early h15); obtain ⟨s0, s3, s1, n0, n1, n2, n3, n4, hlk⟩ := hcw)
              replace hI := Lib.hid hI
              replace hk2 := Lib.hid hk2
              clear hwt
              refine wpOp_step rfl (fun K hK => ?_)
              go_simp
              exact hK _ _ ⟨_, by simp [updT, e3], hk2.out.at_ rfl, hI.out.same _ (by decide) (by decide) (by decide)⟩
            · -- operation 5
              try (have h15 := hnot (by decide) (by decide); have hcw := hcells W (hI.early h15); obtain ⟨s0, s3, s1, n0, n1, n2, n3, n4, hlk⟩ := hcw)
              replace hI := Lib.hid hI
              replace hk2 := Lib.hid hk2
              clear hwt
              refine wpOp_step rfl (fun K hK => ?_)
              go_simp
              exact hK _ _ ⟨_, by simp [updT], hk2.out.at_ rfl, hI.out.same _ (by decide) (by decide) (by decide)⟩
            · -- operation 6
              try (have h15 := hnot (by decide) (by decide); have hcw := hcells W (hI.early h15); obtain ⟨s0, s3, s1, n0, n1, n2, n3, n4, hlk⟩ := hcw)
              replace hI := Lib.hid hI
              replace hk2 := Lib.hid hk2
              clear hwt
              refine wpOp_step rfl (fun K hK => ?_)
              go_simp
              exact hK _ _ ⟨_, by simp [updT], hk2.out.at_ rfl, hI.out.same _ (by decide) (by decide) (by decide)⟩
            · -- operation 7
              have e6 : t 6 = Value.pointer (some ⟨g, 0, none⟩) := hk2 6 _ (hwt 6 (by kernel_rfl)) rfl
              try (have h15 := hnot (by decide) (by decide); have hcw := hcells W (hI.early h15); obtain ⟨s0, s3, s1, n0, n1, n2, n3, n4, hlk⟩ := hcw)
              replace hI := Lib.hid hI
              replace hk2 := Lib.hid hk2
              clear hwt
              refine wpOp_step rfl (fun K hK => ?_)
              go_simp
              exact hK _ _ ⟨_, by simp [updT, e6], hk2.out.at_ rfl, hI.out.same _ (by decide) (by decide) (by decide)⟩
            · -- operation 8
              have e7 : t 7 = .pointer (some ⟨g, 0, none⟩) := hk2 7 _ (hwt 7 (by kernel_rfl)) rfl
              try (have h15 := hnot (by decide) (by decide); have hcw := hcells W (hI.early h15); obtain ⟨s0, s3, s1, n0, n1, n2, n3, n4, hlk⟩ := hcw)
              replace hI := Lib.hid hI
              replace hk2 := Lib.hid hk2
              clear hwt
              refine wpOp_step rfl (fun K hK => ?_)
              go_simp
              exact hK _ _ ⟨_, by simp [updT, e7], hk2.out.at_ rfl, hI.out.same _ (by decide) (by decide) (by decide)⟩
            · -- operation 9
              have e8 : t 8 = .pointer (some ⟨g, 3, none⟩) := hk2 8 _ (hwt 8 (by kernel_rfl)) rfl
              try (have h15 := hnot (by decide) (by decide); have hcw := hcells W (hI.early h15); obtain ⟨s0, s3, s1, n0, n1, n2, n3, n4, hlk⟩ := hcw)
              replace hI := Lib.hid hI
              replace hk2 := Lib.hid hk2
              clear hwt
              refine wpOp_step rfl (fun K hK => ?_)
              go_simp
              exact hK _ _ ⟨_, by simp [updT, e8], hk2.out.at_ rfl, hI.out.same _ (by decide) (by decide) (by decide)⟩
            · -- operation 10
              try (have h15 := hnot (by decide) (by decide); have hcw := hcells W (hI.early h15); obtain ⟨s0, s3, s1, n0, n1, n2, n3, n4, hlk⟩ := hcw)
              replace hI := Lib.hid hI
              replace hk2 := Lib.hid hk2
              clear hwt
              refine wpOp_step rfl (fun K hK => ?_)
              go_simp
              exact hK _ _ ⟨_, by simp [updT], hk2.out.at_ rfl, hI.out.same _ (by decide) (by decide) (by decide)⟩
            · -- operation 11
              have e10 : t 10 = .pointer (some ⟨w.heap.size, 1, none⟩) := hk2 10 _ (hwt 10 (by kernel_rfl)) rfl
              try (have h15 := hnot (by decide) (by decide); have hcw := hcells W (hI.early h15); obtain ⟨s0, s3, s1, n0, n1, n2, n3, n4, hlk⟩ := hcw)
              replace hI := Lib.hid hI
              replace hk2 := Lib.hid hk2
              clear hwt
              refine wpOp_step rfl (fun K hK => ?_)
              go_simp
              exact hK _ _ ⟨_, by simp [updT, e10], hk2.out.at_ rfl, hI.out.same _ (by decide) (by decide) (by decide)⟩
            · -- operation 12
              have e9 : t 9 = .map (some mb) := hk2 9 _ (hwt 9 (by kernel_rfl)) rfl
              have e11 : t 11 = .string tk.name := hk2 11 _ (hwt 11 (by kernel_rfl)) rfl
              try (have h15 := hnot (by decide) (by decide); have hcw := hcells W (hI.early h15); obtain ⟨s0, s3, s1, n0, n1, n2, n3, n4, hlk⟩ := hcw)
              replace hI := Lib.hid hI
              replace hk2 := Lib.hid hk2
              clear hwt
              refine wpOp_step rfl (fun K hK => ?_)
              go_simp
              exact hK _ _ ⟨_, by simp [updT, e9, e11], hk2.out.at_ rfl, hI.out.same _ (by decide) (by decide) (by decide)⟩
            · -- operation 13
              have e5 : t 5 = .agg #[.int .i64 1, .string tk.name, .slice a3 tk.attrs.length c3, .string ⟨#[]⟩, .slice none 0 0] := hk2 5 _ (hwt 5 (by kernel_rfl)) rfl
              have e12 : t 12 = .int .i64 (P : Int) := hk2 12 _ (hwt 12 (by kernel_rfl)) rfl
              try (have h15 := hnot (by decide) (by decide); have hcw := hcells W (hI.early h15); obtain ⟨s0, s3, s1, n0, n1, n2, n3, n4, hlk⟩ := hcw)
              replace hI := Lib.hid hI
              replace hk2 := Lib.hid hk2
              clear hwt
              refine wpOp_step rfl (fun K hK => ?_)
              go_simp
              exact hK _ _ ⟨_, by simp [updT, e5, e12], hk2.out.at_ rfl, hI.out.same _ (by decide) (by decide) (by decide)⟩
            · -- operation 14
              have e13 : t 13 = .agg #[.int .i64 1, .string tk.name, .slice a3 tk.attrs.length c3, .string ⟨#[]⟩, .slice none 0 0, .int .i64 (P : Int)] := hk2 13 _ (hwt 13 (by kernel_rfl)) rfl
              have h15 : f 15 = false := Bool.eq_false_iff.2 (fun h => by have := hdone h 14 (by decide) (by decide); rw [hfi] at this; cases this)
              have h18 : f 18 = false := Bool.eq_false_iff.2 (fun h => by rw [h1815 h] at h15; cases h15)
              have hW := hI.1 hfi
              subst hW
              replace hk2 := Lib.hid hk2
              replace hI := Lib.hid hI
              clear hwt
              refine wpOp_step rfl (fun K hK => ?_)
              go_simp
              exact hK _ _ ⟨_, by simp [updT, e13], hk2.out.at_ rfl, PuI.mk1 (by decide) (by decide) h15 h18⟩
            · -- operation 15
              have e4 : t 4 = .slice (some ⟨go, 0, none⟩) (A.length + 1) cap := hk2 4 _ (hwt 4 (by kernel_rfl)) rfl
              have e14 : t 14 = .slice (some ⟨w5.heap.size, 0, none⟩) 1 1 := hk2 14 _ (hwt 14 (by kernel_rfl)) rfl
              have h14 := hwt 14 (by kernel_rfl)
              have h18 : f 18 = false := Bool.eq_false_iff.2 (fun h => by rw [h1815 h] at hfi; cases hfi)
              have hW := hI.2.1 h14 hfi
              subst hW
              replace hk2 := Lib.hid hk2
              replace hI := Lib.hid hI
              clear hwt
              refine wpOp_step rfl (fun K hK => ?_)
              refine wp_append_run _ _ 190 rfl _ _ _ (by show t 4 = _; exact e4) (by show t 14 = _; exact e14) hrunA ?_
              exact hK _ _ ⟨_, by simp [updT, Act.put], hk2.out.at_ rfl, PuI.app (by decide) (by decide) h14 h18⟩
            · -- operation 16
              have e0 : t 0 = Value.pointer (some ⟨g, 0, none⟩) := hk2 0 _ (hwt 0 (by kernel_rfl)) rfl
              try (have h15 := hnot (by decide) (by decide); have hcw := hcells W (hI.early h15); obtain ⟨s0, s3, s1, n0, n1, n2, n3, n4, hlk⟩ := hcw)
              replace hI := Lib.hid hI
              replace hk2 := Lib.hid hk2
              clear hwt
              refine wpOp_step rfl (fun K hK => ?_)
              go_simp
              exact hK _ _ ⟨_, by simp [updT, e0], hk2.out.at_ rfl, hI.out.same _ (by decide) (by decide) (by decide)⟩
            · -- operation 17
              have e16 : t 16 = .pointer (some ⟨g, 0, none⟩) := hk2 16 _ (hwt 16 (by kernel_rfl)) rfl
              try (have h15 := hnot (by decide) (by decide); have hcw := hcells W (hI.early h15); obtain ⟨s0, s3, s1, n0, n1, n2, n3, n4, hlk⟩ := hcw)
              replace hI := Lib.hid hI
              replace hk2 := Lib.hid hk2
              clear hwt
              refine wpOp_step rfl (fun K hK => ?_)
              go_simp
              exact hK _ _ ⟨_, by simp [updT, e16], hk2.out.at_ rfl, hI.out.same _ (by decide) (by decide) (by decide)⟩
            · -- operation 18
              have e15 : t 15 = .slice (some ⟨gg, 0, none⟩) (A.length + 1 + 1) c2 := hk2 15 _ (hwt 15 (by kernel_rfl)) rfl
              have e17 : t 17 = .pointer (some ⟨g, 0, none⟩) := hk2 17 _ (hwt 17 (by kernel_rfl)) rfl
              have h15 := hwt 15 (by kernel_rfl)
              have h14 := hdone h15 14 (by decide) (by decide)
              have hW := hI.2.2.1 h15 hfi
              subst hW
              replace hk2 := Lib.hid hk2
              replace hI := Lib.hid hI
              clear hwt
              refine wpOp_step rfl (fun K hK => ?_)
              go_simp
              exact hK _ _ ⟨undef, by simp [updT, e15, e17], hk2.out.free rfl, PuI.put (by decide) (by decide) h14 h15⟩
          case fin =>
            intro f t W hall hk2 hI
            have hW := hI.2.2.2 (hall 18 (by omega))
            subst hW
            clear hk2 hall hI hcells
            have hb7 : Below w5.heap.size w5 (w5.alloc (.cells #[.int .i64 1, .string tk.name, .slice a3 tk.attrs.length c3, .string ⟨#[]⟩, .slice none 0 0, .int .i64 (P : Int)] 189)).drew := ((Below.refl _ w5).alloc (Nat.le_refl _) _).drew
            have S7 := r5.out.1.st_below hb7
            have r7 := r5.out.step S7
            have g7 := idle_grw (S7.2.2.rep hg5.out) r5.out.2.size hb7.size
            have bz7 := bz5.out.below hb7 bz5.out.lt
            have hz7 : (w5.alloc (.cells #[.int .i64 1, .string tk.name, .slice a3 tk.attrs.length c3, .string ⟨#[]⟩, .slice none 0 0, .int .i64 (P : Int)] 189)).drew.heap.size = w5.heap.size + 1 := by simp
            have hl5 : (A ++ [f5]).length = A.length + 1 := by simp
            have p8 := r7.1.push (f := ⟨M7.elT tk, .slice a3 tk.attrs.length c3, .slice none 0 0, P⟩) (gg := gg) (c2 := c2) (w2 := w6) rfl rfl g7 (by rw [hvo1.out]; exact hgrow.out) (by rw [hl5]; exact hown6.out) (by
              rw [hvo1.out]
              rcases hat6.out with h1 | h1
              · exact .inl h1
              · exact .inr (by omega))
            rw [hl5] at p8
            have bz8 := bz7.keep (p8.2.block w.heap.size bz7.lt (hnw.out _ (by omega)))
            have r8 : Reach F w0 _ g mb _ _ _ _ _ _ _ := ⟨p8.1.grw2 r7.2.size p8.2.size, r7.2.trans p8.2⟩
            obtain ⟨w8, hw8⟩ : ∃ W, w6.setCell ⟨g, 0, none⟩ (.slice (some ⟨gg, 0, none⟩) (A.length + 1 + 1) c2) = W := ⟨_, rfl⟩
            rw [hw8] at bz8 r8 ⊢
            clear p8 S7 r7 g7 bz7 hown6 hgrow hat6 hrunA hw8 k6 f6
            have k0 := r8.1.box.cell (i := 0) rfl
            have k3 := r8.1.box.cell (i := 3) rfl
            have y1 : w8.cell? ⟨w.heap.size, 1, none⟩ = some (.string tk.name) := bz8.cell (i := 1) rfl
            have hwf : (Lit.int .i64 ((A.length : Int) + 1)).wf = true := by
              have h2 : IntKind.i64.min = -9223372036854775808 := rfl
              have h3 : IntKind.i64.max = 9223372036854775807 := rfl
              simp only [Lit.wf, Bool.and_eq_true, decide_eq_true_eq, h2, h3]
              omega
            have hnq := hkc.out.inv.nq
            obtain ⟨w9, hrun9, own9, turn9⟩ := r8.1.drew.map.store keySS Tryz.underlying191 (by unfold maxLen; omega) hkey (plainElem_int (H := Unit) Tryz.underlying3 hwf)
            have hg9 : w8.grownBy w9 (some mb) := ⟨turn9.grown.os, turn9.grown.tape, turn9.grown.output, turn9.grown.size, turn9.grown.block⟩
            have r9 := (r8.step (r8.1.putm hg9 own9)).start hb0 hlt.out
            have hI9 := hkc.out.inv.push (f' := f5) (e := ⟨M7.elT tk, .slice a3 tk.attrs.length c3, .slice none 0 0, P⟩) hkc.out.bld.map.isMap hx5.out hn5.out rfl hP.out hts (c := tokQ tk) (t := tk) (by unfold tokQ; omega) (Nat.le_refl _)
            have ec : ((A.length + 1 : Nat) : Int) = (A.length : Int) + 1 := by omega
            rw [ec] at hI9
            have hf : BStep F w g mb s2 (q + tokQ tk) (.returned (.tuple #[])) w9 := ⟨rfl, ⟨_, _, _, _, _, _, _, r9.1, by rw [he2.out]; exact hI9⟩, r9.2⟩
            replace hf := Lib.hid hf
            clear r8 r9 hI9 own9 turn9 hg9 bz8
            go_wp2_with fail
            go_region
            go_wp2_with fail
            go_end0
            exact hf.out
        · have he2 : s2 = ⟨M7.putN d1 (M7.elT tk) s.L, d1⟩ := by rw [hs2.out, hs1'.out]; simp
          have n0 := bn4.out.cell (i := 0) rfl
          have n1 := bn4.out.cell (i := 1) rfl
          have n2 := bn4.out.cell (i := 2) rfl
          have n3 := bn4.out.cell (i := 3) rfl
          have n4 := bn4.out.cell (i := 4) rfl
          have hAd := Lib.hid (bAdd hB4.out (by omega) (by omega) hg4.out)
          replace he2 := Lib.hid he2
          go_wp2_with fail
          refine hAd.out.mono ?_
          rintro e w5 ⟨rfl, vt5, pt5, f5, hx5, hn5, s5⟩
          have r5 := (r3.out.step (s5.start hb4.out hF3.out)).start hb0 hlt.out
          have hI5 := hkc.out.inv.add (c := tokQ tk) hx5 hn5 (by rfl) (by
            rw [M3.weight_cons, M3.weight_nil]
            show 1 + tk.attrs.length + M3.weight [] + 0 ≤ _
            rw [M3.weight_nil]; unfold tokQ; omega) (by unfold tokQ; omega)
          have hf : BStep F w g mb s2 (q + tokQ tk) (.returned (.tuple #[])) w5 := ⟨rfl, ⟨_, _, _, _, _, _, _, r5.1, by rw [he2.out]; exact hI5⟩, r5.2⟩
          replace hf := Lib.hid hf
          clear s5 r5 hI5 hx5 hn5 n0 n1 n2 n3 n4
          go_wp2_with fail
          exact bodyPost_ret (v := .tuple #[]) (by simp [results, Tryz.results213, go_sem]) rfl hf.out
      · obtain ⟨hA, hcT⟩ : A ≠ [] ∧ cb = true := by
          cases A with
          | nil => simp at hbb
          | cons a A => exact ⟨by simp, by simpa using hbb⟩
        rcases List.eq_nil_or_concat A with h0 | ⟨A', p, h0⟩
        · exact absurd h0 hA
        rw [List.concat_eq_append] at h0
        subst h0
        obtain ⟨b1, b2, b3, b4, b5, b6⟩ := hk2.bounds hq
        have hcT2 : M6.closesB f.x.name.data.toList tk.name.data.toList = true := hcb.out.trans hcT
        have hC := Lib.hid (bShut hk2.bld b1 b2 b3 b4 b5 b6)
        replace hk2 := Lib.hid hk2
        replace hcT2 := Lib.hid hcT2
        clear hk hbb hbx hCl
        go_wp2_with fail
        refine hC.out.mono ?_
        rintro e w3 ⟨rfl, vo2, vt2, pt2, p', n', hx, hn, hn', hst⟩
        have hk3 := hk2.out.next hx hn hn' hst
        have hnm := (hk2.out.inv.shut hk2.out.bld.map.isMap hx hn hn').2
        have hc3 := hc.out.next (by rw [hd1]; simp) hnm hcT2.out
        have hl2 : lenOf w3 g < lenOf wr g := by
          obtain ⟨go2, cap2, hvo2, _⟩ := hk3.bld.open_slice (by simp)
          have k02 := hk3.bld.box.cell (i := 0) rfl
          rw [hvo2] at k02
          rw [lenOf_eq k02, lenOf_eq k0]
          simp
        replace hk3 := Lib.hid hk3
        replace hc3 := Lib.hid hc3
        clear hst hx hn hnm hk2 hc hC k0 z1 c1
        go_wp2_with fail
        go_roundw
        case rel => exact ⟨_, _, _, _, _, _, _, _, hk3.out, hc3.out⟩
        case measure => exact hl2
end Go.Proofs.YteefodibpjgicaaGreat

namespace Go.Proofs.YteefodibpjgicaaGreat
open Go.RowKit Go.Maps
theorem keyI : Keyed Tryz.prog 3 := int_keyed Tryz.underlying3
def fnOf (k : Int) : Value := if k = 1 then .func (.func 213) #[] #[] else if k = 2 then .func (.func 214) #[] #[] else if k = 3 then .func (.func 215) #[] #[] else if k = 4 then .func (.func 216) #[] #[] else .nilFunc
def dngRow : List (Lit × DataW Value) := [(.int .i64 1, .held (fnOf 1)), (.int .i64 2, .held (fnOf 2)), (.int .i64 3, .held (fnOf 3)), (.int .i64 4, .held (fnOf 4))]
def Dng (w : World) (b : Nat) : Prop := w.ownsMap Tryz.prog 3 heldR b 4 (rowD dngRow (.map []))
set_option maxHeartbeats 4000000 in
theorem bDoings (w : World) : Calls Tryz.prog 207 #[] w fun e w' => ∃ b, e = .returned (.map (some b)) ∧ Dng w' b ∧ Below w.heap.size w w' := by
  have b0 := (Below.refl w.heap.size w).alloc (Nat.le_refl _) (.map #[] 0)
  have o0 : (w.alloc (.map #[] 0)).ownsMap Tryz.prog 3 heldR w.heap.size 0 (.map []) := World.ownsMap_made w Tryz.prog 3 heldR
  have hmm := @run_makeMap Tryz.prog 196 w
  have hz0 : w.heap.size < (w.alloc (.map #[] 0)).heap.size := by simp
  generalize w.alloc (.map #[] 0) = w0 at *
  obtain ⟨w1, r1, o1, g1⟩ := o0.update keyI Tryz.underlying196 (by unfold maxLen; omega) (keyOf_int_mk Tryz.underlying3 (a := 1) (by decide)) (val := .func (.func 213) #[] #[]) (R := heldR) rfl
  obtain ⟨w2, r2, o2, g2⟩ := o1.update keyI Tryz.underlying196 (by unfold maxLen; omega) (keyOf_int_mk Tryz.underlying3 (a := 2) (by decide)) (val := .func (.func 214) #[] #[]) (R := heldR) rfl
  obtain ⟨w3, r3, o3, g3⟩ := o2.update keyI Tryz.underlying196 (by unfold maxLen; omega) (keyOf_int_mk Tryz.underlying3 (a := 3) (by decide)) (val := .func (.func 215) #[] #[]) (R := heldR) rfl
  obtain ⟨w4, r4, o4, g4⟩ := o3.update keyI Tryz.underlying196 (by unfold maxLen; omega) (keyOf_int_mk Tryz.underlying3 (a := 4) (by decide)) (val := .func (.func 216) #[] #[]) (R := heldR) rfl
  have hB : Hid (Below w.heap.size w w4) := (((b0.grown g1 (by omega) (fun k hk => by cases hk; exact Nat.le_refl _)).grown g2 (by have := g1.size; omega) (fun k hk => by cases hk; exact Nat.le_refl _)).grown g3 (by have := g1.size; have := g2.size; omega) (fun k hk => by cases hk; exact Nat.le_refl _)).grown g4 (by have := g1.size; have := g2.size; have := g3.size; omega) (fun k hk => by cases hk; exact Nat.le_refl _)
  have hD : Hid (Dng w4 w.heap.size) := o4
  clear o0 o1 o2 o3 o4 g1 g2 g3 g4 b0 hz0
  go_enter Tryz.func207, Tryz.ntmps207
  go_wp2
  go_ret
  exact ⟨_, rfl, hD.out, hB.out⟩
def isDo (k : Int) : Bool := decide (k = 1 ∨ k = 2 ∨ k = 3 ∨ k = 4)
theorem dng_look {w : World} {b : Nat} (h : Dng w b) (k : Int) (hk : (Lit.int .i64 k).wf = true) : (Instr.lookup 196 (.map (some b)) (.int .i64 k) true).run Tryz.prog w = .ok (.tuple #[fnOf k, .bool (isDo k)]) w := by
  obtain ⟨x, ps, hr, hx⟩ := h.look_ok keyI Tryz.underlying196 (z := .nilFunc) (Tryz.zeroValue194 _) (R := heldR) rfl (keyOf_int_mk Tryz.underlying3 hk)
  have hx1 : DataW.held x = (rowD dngRow (.map [])).atKey (.int .i64 k) (.held .nilFunc) := by
    have := hx
    simp only [heldR, Option.some.injEq, Prod.mk.injEq] at this
    exact this.1
  have hkk : ∀ p ∈ dngRow, WideAt.IsKeyLit p.1 := by
    intro p hp
    simp only [dngRow, List.mem_cons, List.not_mem_nil, or_false] at hp
    rcases hp with rfl | rfl | rfl | rfl <;> exact trivial
  have hd : dngRow.Pairwise (fun p q => p.1 ≠ q.1) := by simp [dngRow]
  have hat := fun p hp => rowD_at dngRow (.map []) (.held .nilFunc) p isMap_empty hkk hd hp
  have hhas : has (rowD dngRow (.map [])) (.int .i64 k) = dngRow.any (fun p => p.1.sameKey (.int .i64 k)) := by
    rw [rowD_has dngRow (.map []) _ isMap_empty hkk]
    show (_ || false) = _
    rw [Bool.or_false]
  rw [hr, hhas]
  by_cases h1 : k = 1
  · subst h1
    rw [hat (.int .i64 1, .held (fnOf 1)) (by simp [dngRow])] at hx1
    cases hx1; rfl
  by_cases h2 : k = 2
  · subst h2
    rw [hat (.int .i64 2, .held (fnOf 2)) (by simp [dngRow])] at hx1
    cases hx1; rfl
  by_cases h3 : k = 3
  · subst h3
    rw [hat (.int .i64 3, .held (fnOf 3)) (by simp [dngRow])] at hx1
    cases hx1; rfl
  by_cases h4 : k = 4
  · subst h4
    rw [hat (.int .i64 4, .held (fnOf 4)) (by simp [dngRow])] at hx1
    cases hx1; rfl
  have hno : ∀ p ∈ dngRow, p.1 ≠ .int .i64 k := by
    intro p hp
    simp only [dngRow, List.mem_cons, List.not_mem_nil, or_false] at hp
    rcases hp with rfl | rfl | rfl | rfl <;> (intro e; injection e with e1 e2; omega)
  rw [rowD_other _ _ _ _ hno] at hx1
  have hx2 : DataW.held x = .held .nilFunc := hx1
  cases hx2
  have e1 : fnOf k = .nilFunc := by unfold fnOf; rw [if_neg h1, if_neg h2, if_neg h3, if_neg h4]
  have e2 : isDo k = false := by unfold isDo; simp [h1, h2, h3, h4]
  have e3 : dngRow.any (fun p => p.1.sameKey (.int .i64 k)) = false := by
    rw [List.any_eq_false]
    intro p hp
    rw [sameKey_ne (hno p hp)]
    decide
  rw [e1, e2, e3]
theorem BS.mono {F : Nat → Prop} {w : World} {g mb q q' : Nat} {s : M7.St} (h : BS F w g mb s q) (hq : q ≤ q') : BS F w g mb s q' := by
  obtain ⟨vo, vt, pt, fs, tx, n, D, h1, h2⟩ := h
  exact ⟨vo, vt, pt, fs, tx, n, D, h1, ⟨h2.len, h2.L, h2.el, h2.notx, h2.nxt, h2.map, by have := h2.fsq; omega, by have := h2.nq; omega, by have := h2.tq; omega, by have := h2.wq; omega, h2.root⟩⟩
theorem BStep.mono {F : Nat → Prop} {w w' : World} {g mb q q' : Nat} {s : M7.St} {e : Ending} (h : BStep F w g mb s q e w') (hq : q ≤ q') : BStep F w g mb s q' e w' := ⟨h.1, h.2.1.mono hq, h.2.2⟩
theorem BS.below {F : Nat → Prop} {w w' : World} {g mb q : Nat} {s : M7.St} (h : BS F w g mb s q) (hb : Below w.heap.size w w') : BS F w' g mb s q := by
  obtain ⟨vo, vt, pt, fs, tx, n, D, h1, h2⟩ := h
  exact ⟨vo, vt, pt, fs, tx, n, D, h1.below hb, h2⟩
theorem BS.lt {F : Nat → Prop} {w : World} {g mb q : Nat} {s : M7.St} (h : BS F w g mb s q) : ∀ b, F b → b < w.heap.size := by
  obtain ⟨vo, vt, pt, fs, tx, n, D, h1, h2⟩ := h
  exact h1.lt
theorem BStep.start {F : Nat → Prop} {w w0 w' : World} {g mb q : Nat} {s : M7.St} {e : Ending} (h : BStep F w0 g mb s q e w') (hb : Below w.heap.size w w0) (hlt : ∀ b, F b → b < w.heap.size) : BStep F w g mb s q e w' := by
  obtain ⟨h0, ⟨vo, vt, pt, fs, tx, n, D, h1, h2⟩, h3⟩ := h
  have r := Reach.start (F := F) (w := w) ⟨h1, h3⟩ hb hlt
  exact ⟨h0, ⟨vo, vt, pt, fs, tx, n, D, r.1, h2⟩, r.2⟩
set_option maxHeartbeats 8000000 in
set_option maxRecDepth 100000 in
theorem bPut {F : Nat → Prop} {w : World} {g mb q : Nat} {s : M7.St} {tk : Tok} {va : Value} {S : Nat → Prop} (h : BS F w g mb s q) (hq : q ≤ 400000) (ht : FitT tk) (hkw : (Lit.int .i64 tk.kind).wf = true) (hS : ∀ b, S b → b < w.heap.size ∧ ¬ F b) (hat : Row S w 2 va tk.attrs.length (cellsA tk.attrs)) :
    Calls Tryz.prog 205 #[.pointer (some ⟨g, 0, none⟩), tk.val va] w (BStep F w g mb (M7.step s tk) (q + tokQ tk)) := by
  obtain ⟨av, cv, rfl⟩ := hat.slice
  obtain ⟨s', hs'⟩ : ∃ x, Hid (x = M7.step s tk) := ⟨_, rfl⟩
  rw [← hs'.out]
  have bz := Box.new w 87 [.int .i64 tk.kind, .string tk.name, .slice av tk.attrs.length cv, .string tk.text]
  have hb0 : Below w.heap.size w (w.alloc (.cells #[.int .i64 tk.kind, .string tk.name, .slice av tk.attrs.length cv, .string tk.text] 87)).drew := ((Below.refl _ w).alloc (Nat.le_refl _) _).drew
  change Box (w.alloc (.cells #[.int .i64 tk.kind, .string tk.name, .slice av tk.attrs.length cv, .string tk.text] 87)).drew _ _ _ at bz
  have z0 := bz.cell (i := 0) rfl
  have hD := Lib.hid (fun W => bDoings W)
  have hlt := h.lt
  have hw : ∀ W, Below w.heap.size w W → BS F W g mb s q := fun W hb => h.below hb
  have hat' : ∀ W, Below w.heap.size w W → Row S W 2 (.slice av tk.attrs.length cv) tk.attrs.length (cellsA tk.attrs) := fun W hb => hat.keep (fun b hb' => hb.block b (hS b hb').1)
  replace hlt := Lib.hid hlt
  replace hw := Lib.hid hw
  replace hat' := Lib.hid hat'
  replace bz := Lib.hid bz
  replace hS := Lib.hid hS
  replace hb0 := Lib.hid hb0
  replace hkw := Lib.hid hkw
  clear h hat
  generalize hfn : fnOf tk.kind = fv at *
  generalize hdo : isDo tk.kind = bd at *
  have hLk := Lib.hid (fun (W : World) (b : Nat) (hd : Dng W b) => by
    have := dng_look hd tk.kind hkw.out
    rw [hfn, hdo] at this
    exact this)
  replace hfn := Lib.hid hfn
  replace hdo := Lib.hid hdo
  go_enter Tryz.func205, Tryz.ntmps205
  go_wp2_with fail
  go_region_law
    (first
      | (go_simp; go_at_call 207; refine (hD.out _).mono ?_; rintro e w2 ⟨mm, rfl, hdg, hb2⟩; have hlk := hLk.out _ _ hdg; have hb2w : Below w.heap.size w w2 := hb0.out.trans (hb2.mono (by simp)); have z0' : w2.cell? ⟨w.heap.size, 0, none⟩ = some (.int .i64 tk.kind) := (bz.out.below hb2 (by simp)).cell (i := 0) rfl; replace hdg := Lib.hid hdg; replace hb2 := Lib.hid hb2; replace hb2w := Lib.hid hb2w))
  all_goals
    have bz2 := bz.out.below hb2.out (by simp)
    have z0 := bz2.cell (i := 0) rfl
    have z1 := bz2.cell (i := 1) rfl
    have z2 := bz2.cell (i := 2) rfl
    have z3 := bz2.cell (i := 3) rfl
    have hb := hw.out _ hb2w.out
    have ha := hat'.out _ hb2w.out
    have hwz := hb2w.out.size
    clear bz2 hlk hdg hb2
    by_cases hk1 : tk.kind = 1
    · have hk := hk1
      have hfv : fv = .func (.func 213) #[] #[] := by rw [← hfn.out, hk]; rfl
      have hbd : bd = true := by rw [← hdo.out, hk]; rfl
      have hst : s' = _ := hs'.out.trans (by unfold M7.step; rw [if_pos hk])
      have hC := Lib.hid (bBegin hb hq ht (fun b h => ⟨by have := (hS.out b h).1; omega, (hS.out b h).2⟩) ha)
      replace hst := Lib.hid hst
      replace hk := Lib.hid hk
      rw [hfv, hbd]
      clear hk1 hb ha
      go_wp2_with fail
      refine hC.out.mono ?_
      rintro e w3 hr
      have hr2 := (hr.start hb2w.out hlt.out).mono (q' := q + tokQ tk) (by omega)
      obtain ⟨rfl, hr3, hr4⟩ := hr2
      have hf : BStep F w g mb s' (q + tokQ tk) (.returned (.tuple #[])) w3 := by rw [hst.out]; exact ⟨rfl, hr3, hr4⟩
      replace hf := Lib.hid hf
      clear hr hr3 hr4
      go_wp2_with fail
      go_end0
      exact hf.out
    by_cases hk2 : tk.kind = 2
    · have hk := hk2
      have hfv : fv = .func (.func 214) #[] #[] := by rw [← hfn.out, hk]; rfl
      have hbd : bd = true := by rw [← hdo.out, hk]; rfl
      have hst : s' = _ := hs'.out.trans (by unfold M7.step; rw [if_neg (by rw [hk]; decide), if_pos hk])
      have hC := Lib.hid (bEnd (va := .slice av tk.attrs.length cv) hb hq ht ⟨_, _, _, rfl⟩)
      replace hst := Lib.hid hst
      replace hk := Lib.hid hk
      rw [hfv, hbd]
      clear hk1 hk2 hb ha
      go_wp2_with fail
      refine hC.out.mono ?_
      rintro e w3 hr
      have hr2 := (hr.start hb2w.out hlt.out).mono (q' := q + tokQ tk) (by omega)
      obtain ⟨rfl, hr3, hr4⟩ := hr2
      have hf : BStep F w g mb s' (q + tokQ tk) (.returned (.tuple #[])) w3 := by rw [hst.out]; exact ⟨rfl, hr3, hr4⟩
      replace hf := Lib.hid hf
      clear hr hr3 hr4
      go_wp2_with fail
      go_end0
      exact hf.out
    by_cases hk3 : tk.kind = 3
    · have hk := hk3
      have hfv : fv = .func (.func 215) #[] #[] := by rw [← hfn.out, hk]; rfl
      have hbd : bd = true := by rw [← hdo.out, hk]; rfl
      have hst : s' = _ := hs'.out.trans (by unfold M7.step; rw [if_neg (by rw [hk]; decide), if_neg (by rw [hk]; decide), if_pos hk])
      have hC := Lib.hid (bChars (va := .slice av tk.attrs.length cv) hb hq ht ⟨_, _, _, rfl⟩)
      replace hst := Lib.hid hst
      replace hk := Lib.hid hk
      rw [hfv, hbd]
      clear hk1 hk2 hk3 hb ha
      go_wp2_with fail
      refine hC.out.mono ?_
      rintro e w3 hr
      have hr2 := (hr.start hb2w.out hlt.out).mono (q' := q + tokQ tk) (by omega)
      obtain ⟨rfl, hr3, hr4⟩ := hr2
      have hf : BStep F w g mb s' (q + tokQ tk) (.returned (.tuple #[])) w3 := by rw [hst.out]; exact ⟨rfl, hr3, hr4⟩
      replace hf := Lib.hid hf
      clear hr hr3 hr4
      go_wp2_with fail
      go_end0
      exact hf.out
    by_cases hk4 : tk.kind = 4
    · have hk := hk4
      have hfv : fv = .func (.func 216) #[] #[] := by rw [← hfn.out, hk]; rfl
      have hbd : bd = true := by rw [← hdo.out, hk]; rfl
      have hst : s' = _ := hs'.out.trans (by unfold M7.step; rw [if_neg (by rw [hk]; decide), if_neg (by rw [hk]; decide), if_neg (by rw [hk]; decide), if_pos hk])
      have hC := Lib.hid (bRemark (t := tk) (va := .slice av tk.attrs.length cv) hb hq ⟨_, _, _, rfl⟩)
      replace hst := Lib.hid hst
      replace hk := Lib.hid hk
      rw [hfv, hbd]
      clear hk1 hk2 hk3 hk4 hb ha
      go_wp2_with fail
      refine hC.out.mono ?_
      rintro e w3 hr
      have hr2 := (hr.start hb2w.out hlt.out).mono (q' := q + tokQ tk) (by omega)
      obtain ⟨rfl, hr3, hr4⟩ := hr2
      have hf : BStep F w g mb s' (q + tokQ tk) (.returned (.tuple #[])) w3 := by rw [hst.out]; exact ⟨rfl, hr3, hr4⟩
      replace hf := Lib.hid hf
      clear hr hr3 hr4
      go_wp2_with fail
      go_end0
      exact hf.out
    · have hfv : bd = false := by rw [← hdo.out]; unfold isDo; simp [hk1, hk2, hk3, hk4]
      have hst : s' = s := hs'.out.trans (by unfold M7.step; rw [if_neg hk1, if_neg hk2, if_neg hk3, if_neg hk4])
      rw [hfv]
      obtain ⟨vo, vt, pt, fs, tx, n, D, h1, h2⟩ := hb.mono (q' := q + tokQ tk) (by omega)
      have r : Reach F w w2 g mb vo vt pt fs tx n D := Reach.start ⟨h1.same_grw.1, Out.refl _ _⟩ hb2w.out hlt.out
      have hf : BStep F w g mb s' (q + tokQ tk) (.returned (.tuple #[])) w2 := by rw [hst]; exact ⟨rfl, ⟨vo, vt, pt, fs, tx, n, D, r.1, h2⟩, r.2⟩
      replace hf := Lib.hid hf
      clear h1 h2 r hb ha hst
      go_wp2_with fail
      go_end0
      exact hf.out
end Go.Proofs.YteefodibpjgicaaGreat

namespace Go.Proofs.YteefodibpjgicaaGreat
open Go.RowKit Go.Shelf
attribute [local go_sem] Oper.semAt_some
theorem own_isCells {w : World} {B : Nat} {e : TypeId} {k n : Nat} {v : Value} {xs : List Value} (h : w.ownsRow B e k v n xs) {b : Nat} (hb : b ∈ v.ownBlock.toList) : ∃ cs t, w.heap[b]? = some (.cells cs t (0, 0)) := by
  rcases h.2 with ⟨rfl, _⟩ | ⟨g, cap, cur, rfl, _, hg, _⟩
  · cases hb
  · simp [Value.ownBlock] at hb; subst hb; exact ⟨_, _, hg⟩
theorem OwnC.isCells {w : World} (l : List Nd) : ∀ (xs : List Value) (F : List Nat), OwnC w xs l F → ∀ b ∈ F, ∃ cs t, w.heap[b]? = some (.cells cs t (0, 0)) := by
  induction l using Nd.ind with
  | h0 => intro xs F h; rw [OwnC] at h; rw [h.2]; intro b hb; cases hb
  | h1 k n ats t ks r ih1 ih2 =>
    intro xs F h b hb
    obtain ⟨va, vk, zs, ys, F1, F2, rfl, h2, h3, rfl, h5, h6⟩ := OwnC.cons_iff.1 h
    rcases List.mem_append.1 hb with hb | hb
    · rcases List.mem_append.1 hb with hb | hb
      · exact own_isCells h2 hb
      · rcases List.mem_append.1 hb with hb | hb
        · exact own_isCells h3 hb
        · exact ih1 _ _ h5 b hb
    · exact ih2 _ _ h6 b hb
end Go.Proofs.YteefodibpjgicaaGreat

namespace Go.Proofs.YteefodibpjgicaaGreat
open Go.RowKit Go.Shelf
theorem wpIn_region_known {F : Fence} {k : Nat} {id n : Nat} {P : Program} {ops : Array Oper} {Q : Exit → Act → World → Prop} {a : Act} {w : World} (Vs : List (Option Value)) (A : (Nat → Value) → Act) (I : (Nat → Bool) → (Nat → Value) → World → Prop) (t0 : Nat → Value)
    (hm : P.follows .mixedOrders = true) (hn : ops.size = n) (hl : Vs.length = n) (hord : ordB .any ops = true) (ha : a = A t0) (h0 : I (fun i => decide (n ≤ i)) t0 w.drew)
    (hstep : ∀ i, i < n → ∀ (f : Nat → Bool) (t : Nat → Value) (W : World), f i = false → (∀ j, Region.waitsFor .any ops i j = true → f j = true) → (∀ i j, Region.waitsFor .any ops i j = true → f i = true → f j = true) → Kn Vs f t → I f t W →
      wpOpIn F k P ops Q i (fun a' W' => ∃ v, a' = A (updT t i v) ∧ Kn Vs (updF f i) (updT t i v) ∧ I (updF f i) (updT t i v) W') (A t) W)
    (hdone : ∀ (f : Nat → Bool) (t : Nat → Value) (W : World), (∀ i, i < n → f i = true) → Kn Vs f t → I f t W → Q .normal (A t) W) :
    (Code.region id ops true).wpIn F k P Q a w := by
  subst hn
  refine wpIn_region_any hm ?_
  change wpAnyIn _ _ _ _ _ _ _ _ _ w.drew
  refine wpAnyIn_inv (fun f ac W => ∃ t, ac = A t ∧ Kn Vs f t ∧ I f t W ∧ ∀ i j, Region.waitsFor .any ops i j = true → f i = true → f j = true) hord ?_ ?_ _ _ _ _ (by simp) (leftOf_none _) ⟨t0, ha, Kn.none Vs _ hl t0, ?_, ?_⟩
  · rintro i hi f ac W hfi hwt ⟨t, rfl, hk, hI, hc⟩
    refine wpOpIn_mono ?_ (hstep i hi f t W hfi hwt hc hk hI)
    rintro a' W' ⟨v, h1, h2, h3⟩
    refine ⟨_, h1, h2, h3, fun m j hw hk' => ?_⟩
    by_cases e : j = i
    · rw [e]; simp [updF]
    · rw [updF_ne _ e]
      by_cases e2 : m = i
      · rw [e2] at hw; exact hwt j hw
      · rw [updF_ne _ e2] at hk'; exact hc m j hw hk'
  · rintro f ac W hall ⟨t, rfl, hk, hI, _⟩
    exact hdone f t W hall hk hI
  · rw [show flags (Array.replicate ops.size false) = fun i => decide (ops.size ≤ i) from funext (flags_none _)]
    exact h0
  · intro i j hw hi
    rw [flags_none] at hi
    have hi : ops.size ≤ i := by simpa using hi
    rw [waits_none hi] at hw
    cases hw
theorem wpOpIn_append_run {F : Fence} {k : Nat} {P : Program} {ops : Array Oper} {Q : Exit → Act → World → Prop} {K : Act → World → Prop} {o : Oper} {a : Act} {w w' : World} {i : Nat} (hi : ops[i]? = some o) (hgd : o.guard = none) (s x : Operand) (t : TypeId) (ho : o.op = .call { callee := .builtin .append, args := #[s, x], argTypes := #[t, t] })
    (v xv r : Value) (hs : a.eval s = v) (hx : a.eval x = xv) (hr : (Builtin.append_ #[t, t] o.type #[v, xv]).run P w = .ok r w') (h : K (a.put o.dst r) w') : wpOpIn F k P ops Q i K a w := by
  refine wpOpIn_step hi (fun K' hK => ?_)
  refine Eq.mpr (if_pos ?hc) ?_
  case hc => simp [Region.wanted, hgd]
  unfold Oper.wpIn
  refine ⟨by simp [Oper.about, ho, resolve, Target.leads, Sem.run_pure], ?_⟩
  rw [Oper.semAt_plain _ _ _ (by intro c hc; rw [ho] at hc; cases hc)]
  simp only [execOp, ho, resolve, invoke, builtin, Sem.run_bind, Sem.run_pure, Result.andThen_ok, List.map_toArray, List.map_cons, List.map_nil, hs, hx, hr]
  exact hK _ _ h
end Go.Proofs.YteefodibpjgicaaGreat

namespace Go.Proofs.YteefodibpjgicaaGreat
open Go.RowKit Go.Shelf
attribute [local go_sem] Oper.semAt_some
def eV (f : FV) : Value := .agg #[.int .i64 f.x.kind, .string f.x.name, f.va, .string f.x.text, f.vk, .int .i64 (f.nx : Int)]
structure EV (S : Nat → Prop) (w0 : World) where
  f : FV
  ix : Nat
  rep : RepV S w0 f.x f.va f.vk
  few : M3.weight f.x.kids ≤ 1000000 ∧ f.x.attrs.length ≤ 1000000
def EV.args {S : Nat → Prop} {w0 : World} (t : EV S w0) : Array Value := #[.int .i64 (t.ix : Int), eV t.f]
theorem EV.of {S : Nat → Prop} {w0 : World} (k : Nat) (fs : List FV) (h : ∀ f ∈ fs, RepV S w0 f.x f.va f.vk ∧ M3.weight f.x.kids ≤ 1000000 ∧ f.x.attrs.length ≤ 1000000) : ∃ T : List (EV S w0), T.map EV.f = fs ∧ ∀ i (hi : i < T.length), T[i].ix = k + i := by
  induction fs generalizing k with
  | nil => exact ⟨[], rfl, fun i hi => by simp at hi⟩
  | cons f r ih =>
    obtain ⟨T, h1, h2⟩ := ih (k + 1) (fun g hg => h g (List.mem_cons_of_mem _ hg))
    obtain ⟨q1, q2⟩ := h f (List.mem_cons_self ..)
    refine ⟨⟨f, k, q1, q2⟩ :: T, by rw [List.map_cons, h1], fun i hi => ?_⟩
    cases i with
    | zero => rfl
    | succ i =>
      have := h2 i (by simpa using hi)
      simp only [List.getElem_cons_succ]
      omega
def KpP (P : Nat → Prop) (W W' : World) : Prop := ∀ b, P b → W'.heap[b]? = W.heap[b]?
theorem KpP.trans {P : Nat → Prop} {A B C : World} (h : KpP P A B) (k : KpP P B C) : KpP P A C := fun b hb => (k b hb).trans (h b hb)
theorem kpP_b {P : Nat → Prop} {w : World} (hP : ∀ b, P b → b < w.heap.size) (W : World) (l : Nat) (o o' : Obj) (hl : w.heap.size ≤ l) (h : W.heap[l]? = some o) (_hc : o.isCells = false) (_hw : o.isWalk = false) : KpP P W (W.putObj l o') := fun b hb => by
  have hbl := hP b hb
  by_cases e : b < W.heap.size
  · exact (grownBy_putObj' W l o').block b e (fun e2 => by cases e2; omega)
  · have := (Array.getElem?_eq_some_iff.1 h).1; omega
theorem back_step {α : Type} (T : List α) (j : Nat) (h : j < T.length) : (T.drop j).reverse = (T.drop (j + 1)).reverse ++ [T[j]] := by
  rw [List.drop_eq_getElem_cons h, List.reverse_cons]
theorem back_pre {α : Type} (T : List α) (j : Nat) : (T.drop j).reverse <+: T.reverse := by
  refine ⟨(T.take j).reverse, ?_⟩
  rw [← List.reverse_append, List.take_append_drop]
set_option maxRecDepth 100000 in
set_option maxHeartbeats 4000000 in
theorem bwd1 (F : Fence) (n : Nat) (h5 : F.fn 217) (hro : F.round = none) (hn : 1 ≤ n) (S : Nat → Prop) (w0 : World) (l0 Bt go cap : Nat) (P : Nat → Prop) (T : List (EV S w0)) (J Jx : List (EV S w0) → World → Prop)
    (hY : ∀ pre x W, J pre W → pre.length < T.length → YieldAt F (n - 1) Tryz.prog l0 x.args W fun e W' =>
      (e = .returned (.bool true) ∧ J (pre ++ [x]) W' ∧ KpP P W W') ∨ (e = .returned (.bool false) ∧ Jx (pre ++ [x]) W'))
    (W : World) (hix : ∀ i (hi : i < T.length), T[i].ix = i) (hPb : P Bt) (hPg : P go) (hT0 : 0 < T.length) (hT6 : T.length ≤ 1000000) (hBt : W.cell? ⟨Bt, 0, none⟩ = some (.slice (some ⟨go, 0, none⟩) T.length cap)) (hc : ∀ j u, (cellsF (T.map EV.f))[j]? = some u → W.cell? ⟨go, j, none⟩ = some u) (h0 : J [] W) :
    CallsIn F n Tryz.prog 217 #[.func (.yield l0) #[] #[], .pointer (some ⟨Bt, 0, none⟩)] W fun e W' => (∃ v, e = .returned v) ∧
      ((∃ ys, ys = T.reverse ∧ J ys W') ∨ (∃ pre, pre <+: T.reverse ∧ Jx pre W')) := by
  refine callsIn_of_wp Tryz.func217 rfl h5 ?_ hro
  simp only [Tryz.ntmps217, List.size_toArray, List.length_cons, List.length_nil, Nat.reduceAdd, Nat.reduceSub, Array.replicate_succ, Array.replicate_zero, List.push_toArray, List.append_toArray, List.nil_append, List.cons_append]
  have hj0 : J (T.drop T.length).reverse W := by rw [List.drop_length]; exact h0
  replace hY := Lib.hid hY
  replace hix := Lib.hid hix
  replace hj0 := Lib.hid hj0
  replace hc := Lib.hid hc
  clear h0
  gi_wp2
  gi_loopw [3] (fun u3 wr => ∃ k : Nat, k ≤ T.length ∧ u3 = .int .i64 ((k : Int) - 1) ∧ J (T.drop k).reverse wr ∧ KpP P W wr) (fun u3 _ => (intOf u3 + 1).toNat)
  case atStart => exact ⟨T.length, Nat.le_refl _, rfl, hj0.out, fun _ _ => rfl⟩
  case round =>
    obtain ⟨k, hk, rfl, hJs, hkp⟩ := hrel
    have cB : wr.cell? ⟨Bt, 0, none⟩ = some (.slice (some ⟨go, 0, none⟩) T.length cap) := (World.cell?_of_block (a := ⟨Bt, 0, none⟩) (hkp Bt hPb)).trans hBt
    cases k with
    | zero =>
      rw [List.drop_zero] at hJs
      replace hJs := Lib.hid hJs
      gi_wp2
      go_end0
      exact ⟨⟨_, rfl⟩, .inl ⟨_, rfl, hJs.out⟩⟩
    | succ j =>
      have hcx : ∀ i u, (cellsF (T.map EV.f))[i]? = some u → wr.cell? ⟨go, i, none⟩ = some u := fun i u hu => (World.cell?_of_block (a := ⟨go, i, none⟩) (hkp go hPg)).trans (hc.out i u hu)
      have hfs : ∀ i u, T[j].f.cells[i]? = some u → i < 6 → (cellsF (T.map EV.f))[j * 6 + i]? = some u := by
        intro i u hu hi6
        have e : T.map EV.f = (T.take j).map EV.f ++ T[j].f :: (T.drop (j + 1)).map EV.f := by
          rw [← List.map_cons, ← List.drop_eq_getElem_cons (by omega), ← List.map_append, List.take_append_drop]
        rw [e, cellsF_append, show T[j].f :: (T.drop (j + 1)).map EV.f = [T[j].f] ++ (T.drop (j + 1)).map EV.f from rfl, cellsF_append, cellsF_one]
        have hl : (cellsF ((T.take j).map EV.f)).length = j * 6 := by rw [cellsF_len]; simp; omega
        rw [List.getElem?_append_right (by omega), hl, show j * 6 + i - j * 6 = i by omega, List.getElem?_append_left (by simp [FV.cells]; omega)]
        exact hu
      have e0 := hcx _ _ (hfs 0 _ rfl (by decide))
      have e1 := hcx _ _ (hfs 1 _ rfl (by decide))
      have e2 := hcx _ _ (hfs 2 _ rfl (by decide))
      have e3 := hcx _ _ (hfs 3 _ rfl (by decide))
      have e4 := hcx _ _ (hfs 4 _ rfl (by decide))
      have e5 := hcx _ _ (hfs 5 _ rfl (by decide))
      simp only [Nat.add_zero] at e0
      have hxi := hix.out j (by omega)
      obtain ⟨fn, tmps, assign, body, hy, hR⟩ := hY.out _ T[j] wr hJs (by simp; omega)
      have hst := back_step T j (by omega)
      have ha : T[j].args = #[.int .i64 (j : Int), .agg #[.int .i64 T[j].f.x.kind, .string T[j].f.x.name, T[j].f.va, .string T[j].f.x.text, T[j].f.vk, .int .i64 (T[j].f.nx : Int)]] := by unfold EV.args eV; rw [hxi]
      rw [ha] at hy
      have hj1 : (0 : Int) ≤ (j : Int) := by omega
      have hj2 : (j : Int) < (T.length : Int) := by omega
      replace hJs := Lib.hid hJs
      replace hkp := Lib.hid hkp
      replace hst := Lib.hid hst
      replace hcx := Lib.hid hcx
      replace hfs := Lib.hid hfs
      replace ha := Lib.hid ha
      gi_wp2
      refine hR.mono ?_
      rintro e W3 (⟨rfl, hJ3, hk3⟩ | ⟨rfl, hJx3⟩)
      · rw [← hst.out] at hJ3
        have hkk := hkp.out.trans hk3
        replace hJ3 := Lib.hid hJ3
        replace hkk := Lib.hid hkk
        gi_wp2
        go_roundw
        case rel => exact ⟨j, by omega, by go_num, hJ3.out, hkk.out⟩
        case measure => simp [intOf]
      · rw [← hst.out] at hJx3
        replace hJx3 := Lib.hid hJx3
        gi_wp2
        refine bodyPost_ret (results_none rfl _ _ _) rfl ?_
        exact ⟨⟨_, rfl⟩, .inr ⟨_, back_pre T j, hJx3.out⟩⟩
set_option maxHeartbeats 1000000 in
theorem bwd (F : Fence) (n : Nat) (h4 : F.fn 210) (hro : F.round = none) (a : Option Addr) (len cap : Nat) (w : World) :
    CallsIn F n Tryz.prog 210 #[.slice a len cap] w fun e w' => e = .returned (.func (.func 217) #[] #[.pointer (some ⟨w.heap.size, 0, none⟩)]) ∧ w.alloc (.cells #[.slice a len cap] 190) = w' := by
  refine callsIn_of_wp Tryz.func210 rfl h4 ?_ hro
  simp only [Tryz.ntmps210, List.size_toArray, List.length_cons, List.length_nil, Nat.reduceAdd, Nat.reduceSub, Array.replicate_succ, Array.replicate_zero, List.push_toArray, List.append_toArray, List.nil_append, List.cons_append]
  gi_wp2
  go_ret
  exact ⟨rfl, rfl⟩
theorem bwdStops (F : Fence) (n : Nat) (h5 : F.fn 217) (hro : F.round = none) (hn : 1 ≤ n) (S : Nat → Prop) (w0 : World) (Bt go cap : Nat) (P : Nat → Prop) (T : List (EV S w0)) (w : World)
    (hix : ∀ i (hi : i < T.length), T[i].ix = i) (hPb : P Bt) (hPg : P go) (hPl : ∀ b, P b → b < w.heap.size) (hT0 : 0 < T.length) (hT6 : T.length ≤ 1000000) (hBt : w.cell? ⟨Bt, 0, none⟩ = some (.slice (some ⟨go, 0, none⟩) T.length cap)) (hc : ∀ j u, (cellsF (T.map EV.f))[j]? = some u → w.cell? ⟨go, j, none⟩ = some u) :
    SeqStopsK F n Tryz.prog 217 #[.pointer (some ⟨Bt, 0, none⟩)] (EV.args (S := S) (w0 := w0)) (KpP P) (fun ys => ys = T.reverse) (fun pre => pre <+: T.reverse) T.length w := fun l0 J Jx W hW _ _ hY h0 =>
  bwd1 F n h5 hro hn S w0 l0 Bt go cap P T J Jx hY W hix hPb hPg hT0 hT6 ((hW.cell (p := ⟨Bt, 0, none⟩) (hPl _ hPb)).trans hBt) (fun j u hu => (hW.cell (p := ⟨go, j, none⟩) (hPl _ hPg)).trans (hc j u hu)) h0
end Go.Proofs.YteefodibpjgicaaGreat

namespace Go.Proofs.YteefodibpjgicaaGreat
open Go.RowKit Go.Shelf
attribute [local go_sem] Oper.semAt_some
def bkN (z : List Nd) (l : List Nd) : List Nd := l.foldl (fun a x => [M7.el x (x.kids ++ a)]) z
theorem bkN_snoc (z : List Nd) (l : List Nd) (x : Nd) : bkN z (l ++ [x]) = [M7.el x (x.kids ++ bkN z l)] := by unfold bkN; rw [List.foldl_append]; rfl
theorem bkN_len (z : List Nd) (hz : z.length ≤ 1) (l : List Nd) : (bkN z l).length ≤ 1 := by
  rcases List.eq_nil_or_concat l with rfl | ⟨A, x, rfl⟩
  · exact hz
  · rw [List.concat_eq_append, bkN_snoc]; simp
theorem bkN_tr (x : Nd) (r : List Nd) (z : List Nd) : bkN z (x :: r).reverse = [M7.el x (M7.tr (x :: r) z)] := by
  induction r generalizing x with
  | nil => rfl
  | cons y r ih =>
    rw [List.reverse_cons, bkN_snoc, ih y]
    rfl
theorem Fresh.cells {W W' : World} {B : Nat} {v : Value} {l : List Nd} (h : Fresh W B v l) (hk : ∀ b : Nat, (∃ cs t, W.heap[b]? = some (Obj.cells cs t (0, 0))) → W'.heap[b]? = W.heap[b]?) (hz : W.heap.size ≤ W'.heap.size) : Fresh W' B v l := by
  obtain ⟨zs, G, h1, h2, h3⟩ := h
  exact ⟨zs, G, own_keep h1 (fun g hg => hk g (own_isCells h1 (by simp [hg]))), OwnC.keep _ _ _ (fun b hb => hk b (OwnC.isCells _ _ _ h2 b hb)) h2, h3.mono (Nat.le_refl _) hz⟩
def NI (gl : Nat) (W0 : World) (l : List Nd) (W : World) : Prop := ∃ v, Boxed W gl 25 v ∧ Fresh W (gl + 1) v l ∧ (l = [] → v = .slice none 0 0) ∧ Out (fun b => b = gl) W0 W
theorem NI.cells {gl : Nat} {W0 W W' : World} {l : List Nd} (h : NI gl W0 l W) (hk : ∀ b : Nat, (∃ cs t, W.heap[b]? = some (Obj.cells cs t (0, 0))) → W'.heap[b]? = W.heap[b]?) (ho : Out (fun b => b = gl) W0 W') (hz : W.heap.size ≤ W'.heap.size) : NI gl W0 l W' := by
  obtain ⟨v, h1, h2, h4, h3⟩ := h
  exact ⟨v, (hk _ ⟨_, _, h1⟩).trans h1, h2.cells hk hz, h4, ho⟩
theorem NI.below {gl : Nat} {W0 W W' : World} {l : List Nd} (h : NI gl W0 l W) (hb : Below W.heap.size W W') : NI gl W0 l W' :=
  h.cells (fun b ⟨cs, t, hc⟩ => hb.block b (Array.getElem?_eq_some_iff.1 hc).1) (by obtain ⟨v, h1, h2, h4, h3⟩ := h; exact h3.below hb) hb.size
theorem NI.own {α : Type} {gl : Nat} {W0 : World} (f : List α → List Nd) : OwnFrom W0.heap.size (fun (pre : List α) W => NI gl W0 (f pre) W) := by
  intro s W W' row hs hg hr
  refine NI.cells hs (fun b ⟨cs, t, hc⟩ => hg.block b (Array.getElem?_eq_some_iff.1 hc).1 (fun e => by obtain ⟨_, o, ho, hcl⟩ := hr b e.symm; rw [hc] at ho; cases ho; cases hcl)) ?_ hg.size
  obtain ⟨v, h1, h2, h4, h3⟩ := hs
  exact ⟨hg.os.trans h3.os, hg.tape.trans h3.tape, hg.output.trans h3.output, Nat.le_trans h3.size hg.size, fun b hb hn => (hg.block b (Nat.lt_of_lt_of_le hb h3.size) (fun e => by have := (hr b e.symm).1; omega)).trans (h3.block b hb hn)⟩
set_option maxHeartbeats 4000000 in
set_option maxRecDepth 100000 in
theorem bTold2 {F : Nat → Prop} {w : World} {g mb : Nat} {vo vt pt : Value} {fs : List FV} {tx : List UInt8} {n : Nat} {D : DataW Unit} (h : Bld F w g mb vo vt pt fs tx n D) (h0 : tx ≠ []) :
    Calls Tryz.prog 209 #[.pointer (some ⟨g, 0, none⟩)] w fun e w' => e = .returned (textV tx) ∧ Bld F w' g mb vo vt pt fs tx n D ∧ Out F w w' := by
  have hgl := h.box.lt
  have bz := Box.new w 41 [.int .i64 0, .string ⟨#[]⟩, .slice none 0 0, .string ⟨#[]⟩, .slice none 0 0]
  have hb0 : Below w.heap.size w (w.alloc (.cells #[.int .i64 0, .string ⟨#[]⟩, .slice none 0 0, .string ⟨#[]⟩, .slice none 0 0] 41)) := (Below.refl _ w).alloc (Nat.le_refl _) _
  have hs0 : (w.alloc (.cells #[.int .i64 0, .string ⟨#[]⟩, .slice none 0 0, .string ⟨#[]⟩, .slice none 0 0] 41)).heap.size = w.heap.size + 1 := by simp
  change Box (w.alloc (.cells #[.int .i64 0, .string ⟨#[]⟩, .slice none 0 0, .string ⟨#[]⟩, .slice none 0 0] 41)) _ _ _ at bz
  have hB0 := h.below hb0
  have hC0 : Carry (idleB F g mb vo vt fs) (idleB F g mb vo vt fs) w (w.alloc (.cells #[.int .i64 0, .string ⟨#[]⟩, .slice none 0 0, .string ⟨#[]⟩, .slice none 0 0] 41)) := fun b hb => ⟨hb, hb0.block b (h.lt b hb.1)⟩
  have hlt := h.lt
  replace hlt := Lib.hid hlt
  replace hC0 := Lib.hid hC0
  replace hB0 := Lib.hid hB0
  replace bz := Lib.hid bz
  go_enter Tryz.func209, Tryz.ntmps209
  go_wp2_with fail
  obtain ⟨w0, hw0⟩ : ∃ W, w.alloc (.cells #[.int .i64 0, .string ⟨#[]⟩, .slice none 0 0, .string ⟨#[]⟩, .slice none 0 0] 41) = W := ⟨_, rfl⟩
  rw [hw0] at bz hb0 hs0 hB0 hC0 ⊢
  clear hw0
  refine (bxString g _ _ _ _ tx w0 hB0.out.box hB0.out.text hB0.out.text_ne h0).mono ?_
  rintro e w1 ⟨rfl, hbx, htx, hT, hz⟩
  obtain ⟨hB1, hO1, hC1⟩ := hB0.out.txt (pt' := pt) (vt' := vt) hbx hB0.out.ptr htx (fun c hc => .inl hc) hT
  have bz1 := bz.out.keep (w' := w1) (hT.2.2.2.2 w.heap.size (by omega) (by omega) (fun e => by have := hB0.out.role_lt (i := 3) e; have := hlt.out _ (h.sub 3 _ e); omega))
  have q0 := bz1.cell (i := 0) rfl
  have q1 := bz1.cell (i := 1) rfl
  have q2 := bz1.cell (i := 2) rfl
  have q3 := bz1.cell (i := 3) rfl
  have q4 := bz1.cell (i := 4) rfl
  have fz := bz1.free
  have bz2 := boxS5 bz1 (.int .i64 2) (.string ⟨#[]⟩) (.slice none 0 0) (.string ⟨tx.toArray⟩) (.slice none 0 0)
  have hfar := farS5 w1 w.heap.size (.int .i64 2) (.string ⟨#[]⟩) (.slice none 0 0) (.string ⟨tx.toArray⟩) (.slice none 0 0)
  replace hB1 := Lib.hid hB1
  replace hO1 := Lib.hid hO1
  replace hC1 := Lib.hid hC1
  replace hfar := Lib.hid hfar
  replace bz2 := Lib.hid bz2
  clear hbx htx hT
  go_wp2_with fail
  obtain ⟨w2, hw2⟩ : ∃ W, (((((w1.setCell ⟨w.heap.size, 0, none⟩ (.int .i64 2)).setCell ⟨w.heap.size, 1, none⟩ (.string ⟨#[]⟩)).setCell ⟨w.heap.size, 2, none⟩ (.slice none 0 0)).setCell ⟨w.heap.size, 3, none⟩ (.string ⟨tx.toArray⟩)).setCell ⟨w.heap.size, 4, none⟩ (.slice none 0 0)) = W := ⟨_, rfl⟩
  rw [hw2] at bz2 hfar ⊢
  clear hw2 q0 q1 q2 q3 q4 fz
  have q0 := bz2.out.cell (i := 0) rfl
  have q1 := bz2.out.cell (i := 1) rfl
  have q2 := bz2.out.cell (i := 2) rfl
  have q3 := bz2.out.cell (i := 3) rfl
  have q4 := bz2.out.cell (i := 4) rfl
  have hzz := hfar.out.size
  have hBF := hB1.out.iff (F' := F) (fun b => ⟨fun hb => hb.elim id (fun e => by omega), .inl⟩)
  have hBf : Bld F w2 g mb vo vt pt fs tx n D := hBF.keep (fun _ h => h) (fun b hb => by have := hlt.out b hb; omega) (fun b hb => hfar.out.block b (by have := hlt.out b hb; omega))
  refine bodyPost_ret (v := textV tx) (by simp [results, Tryz.results209, go_sem, q0, q1, q2, q3, q4]) rfl ⟨rfl, hBf, ?_⟩
  exact ⟨hfar.out.os.trans (hO1.out.os.trans hb0.os), hfar.out.tape.trans (hO1.out.tape.trans hb0.tape), hfar.out.output.trans (hO1.out.output.trans hb0.output), by omega, fun b hb hF => (hfar.out.block b (by omega)).trans ((hO1.out.block b (by omega) hF).trans (hb0.block b hb))⟩
theorem Fresh.join {W W1 : World} {B gg c2 : Nat} {v1 : Value} {l1 l2 : List Nd} {zs1 zs2 : List Value} {F1 F2 : List Nat} {mid : Nat} (h1 : OwnC W zs1 l1 F1) (h2 : OwnC W zs2 l2 F2) (hs1 : Span mid W.heap.size (v1.ownBlock.toList ++ F1)) (hs2 : Span B mid F2) (hBm : B ≤ mid) (hm : mid ≤ W.heap.size)
    (hgrow : W.grownBy W1 v1.ownBlock) (hat : v1.ownBlock = some gg ∨ gg = W.heap.size) (hown : W1.ownsRow B 41 5 (.slice (some ⟨gg, 0, none⟩) (l1.length + l2.length) c2) (l1.length + l2.length) (zs1 ++ zs2)) : Fresh W1 B (.slice (some ⟨gg, 0, none⟩) (l1.length + l2.length) c2) (l1 ++ l2) := by
  have hk : ∀ b, b < W.heap.size → v1.ownBlock ≠ some b → W1.heap[b]? = W.heap[b]? := fun b hb hn => hgrow.block b hb (fun e => hn e.symm)
  have hn1 := List.nodup_append.1 hs1.1
  have hno : ∀ b ∈ F1, v1.ownBlock ≠ some b := fun b hb e => hn1.2.2 b (by rw [e]; simp) b hb rfl
  have hv1 : ∀ b, v1.ownBlock = some b → mid ≤ b ∧ b < W.heap.size := fun b e => hs1.2 b (by rw [e]; simp)
  have hF1 : ∀ b ∈ F1, mid ≤ b ∧ b < W.heap.size := fun b hb => hs1.2 b (by simp [hb])
  have hgl : gg < W1.heap.size := (hown.lt gg rfl).2
  refine ⟨zs1 ++ zs2, F1 ++ F2, by rw [List.length_append]; exact hown, OwnC.append (OwnC.keep _ _ _ (fun b hb => hk b (by have := (hs2.2 b hb).2; omega) (fun e => by have := (hv1 b e).1; have := (hs2.2 b hb).2; omega)) h2) _ _ _ (OwnC.keep _ _ _ (fun b hb => hk b (hF1 b hb).2 (hno b hb)) h1), ?_, fun b hb => ?_⟩
  · show ((some gg).toList ++ (F1 ++ F2)).Nodup
    rw [Option.toList_some, List.singleton_append, List.nodup_cons]
    refine ⟨fun hm' => ?_, List.nodup_append.2 ⟨hn1.2.1, hs2.1, fun a ha b hb e => by have := (hF1 a ha).1; have := (hs2.2 b hb).2; omega⟩⟩
    rcases List.mem_append.1 hm' with h | h
    · rcases hat with e | e
      · exact hno gg h e
      · have := (hF1 gg h).2; omega
    · have h3 := (hs2.2 gg h).2
      rcases hat with e | e
      · have := (hv1 gg e).1; omega
      · omega
  · have hz := hgrow.size
    have hb : b ∈ (some gg).toList ++ (F1 ++ F2) := hb
    rw [Option.toList_some, List.singleton_append, List.mem_cons, List.mem_append] at hb
    rcases hb with rfl | hb | hb
    · rcases hat with e | e
      · have := hv1 _ e; omega
      · omega
    · have := hF1 b hb; omega
    · have := hs2.2 b hb; omega
def NdI (Wb : World) (B : Nat) (ks l0 : List Nd) (f : Nat → Bool) (t : Nat → Value) (W : World) : Prop :=
  (f 3 = false → W = Wb.drew) ∧ (f 3 = true → f 5 = false → Below Wb.heap.size Wb W ∧ Fresh W Wb.heap.size (t 3) ks) ∧ (f 5 = true → Below Wb.heap.size Wb W ∧ Fresh W B (t 5) (ks ++ l0)) ∧ (f 6 = true → t 6 = t 5)
section
variable {Wb W W' : World} {B : Nat} {ks l0 : List Nd} {f : Nat → Bool} {t : Nat → Value}
theorem NdI.start : NdI Wb B ks l0 (fun i => decide (7 ≤ i)) t Wb.drew := ⟨fun _ => rfl, fun h => by simp at h, fun h => by simp at h, fun h => by simp at h⟩
theorem NdI.same (h : NdI Wb B ks l0 f t W) (i : Nat) (v : Value) (h3 : 3 ≠ i) (h5 : 5 ≠ i) (h6 : 6 ≠ i) : NdI Wb B ks l0 (updF f i) (updT t i v) W := by
  unfold NdI
  rw [updF_ne _ h3, updF_ne _ h5, updF_ne _ h6, updT_ne _ _ h3, updT_ne _ _ h5, updT_ne _ _ h6]
  exact h
theorem NdI.clone {v : Value} (h5 : f 5 = false) (h6 : f 6 = false) (hb : Below Wb.heap.size Wb W') (hf : Fresh W' Wb.heap.size v ks) : NdI Wb B ks l0 (updF f 3) (updT t 3 v) W' := by
  unfold NdI
  rw [updF_self, updF_ne _ (by decide), updF_ne _ (by decide), updT_same, h5, h6]
  exact ⟨(fun h => by cases h), fun _ _ => ⟨hb, hf⟩, (fun h => by cases h), (fun h => by cases h)⟩
theorem NdI.app {v : Value} (h3 : f 3 = true) (h6 : f 6 = false) (hb : Below Wb.heap.size Wb W') (hf : Fresh W' B v (ks ++ l0)) : NdI Wb B ks l0 (updF f 5) (updT t 5 v) W' := by
  unfold NdI
  rw [updF_self, updF_ne _ (by decide), updF_ne _ (by decide), updT_same, h3, h6]
  exact ⟨(fun h => by cases h), (fun _ h => by cases h), fun _ => ⟨hb, hf⟩, (fun h => by cases h)⟩
theorem NdI.fin (h : NdI Wb B ks l0 f t W) : NdI Wb B ks l0 (updF f 6) (updT t 6 (t 5)) W := by
  unfold NdI
  rw [updF_self, updF_ne _ (by decide), updF_ne _ (by decide), updT_same, updT_ne _ _ (by decide), updT_ne _ _ (by decide)]
  exact ⟨h.1, h.2.1, h.2.2.1, fun _ => rfl⟩
end
theorem lastly {Wb W : World} {gl : Nat} {v vc : Value} {ks l0 : List Nd} (hb : Below Wb.heap.size Wb W) (hc : Fresh W Wb.heap.size vc ks) (hl : Fresh Wb (gl + 1) v l0) (hn : l0 = [] → v = .slice none 0 0) (h1 : l0.length ≤ 1) (hgl : gl + 1 ≤ Wb.heap.size) (hk : ks.length ≤ 1000000) (ty : TypeId) :
    ∃ r W', (Builtin.append_ #[25, 25] ty #[vc, v]).run Tryz.prog W = .ok r W' ∧ Below Wb.heap.size Wb W' ∧ Fresh W' (gl + 1) r (ks ++ l0) := by
  obtain ⟨j0, hj0, hj00, hj01, hj02⟩ := info_parts infoN
  obtain ⟨zs1, F1, o1, c1, s1⟩ := hc
  have hz := hb.size
  match l0, h1, hn, hl with
  | [], _, hn, _ =>
    rw [hn rfl]
    refine ⟨vc, W, run_append_owned_none (P := Tryz.prog) (w := W) Wb.heap.size 25 ty 41 j0 5 Tryz.underlying25 hj0 vc ks.length zs1 o1, hb, ?_⟩
    rw [List.append_nil]
    exact Fresh.base ⟨zs1, F1, o1, c1, s1⟩ (by omega)
  | [y], _, _, hl =>
    obtain ⟨zs2, F2, o2, c2, s2⟩ := hl
    rcases o2.2 with ⟨_, h0⟩ | ⟨gv, cv, cur, rfl, q1, q2, q3, q4, q5, q6⟩
    · cases h0
    have hcell := fun j u (hu : zs2[j]? = some u) => o2.cells (g := gv) rfl j u hu
    have hgv := (o2.lt gv rfl).2
    have hl5 : zs2.length = 1 * 5 := o2.1
    have hone : ∀ u ∈ zs2, u.oneCell' = true := by
      obtain ⟨va, vk, zs, ys, G1, G2, e1, e2, e3, e4, e5, e6⟩ := OwnC.cons_iff.1 c2
      have : ys = [] := by
        rw [e1] at hl5
        simp at hl5
        exact hl5
      subst this
      obtain ⟨aa, ca, rfl⟩ := own_slice e2
      obtain ⟨ak, ck, rfl⟩ := own_slice e3
      intro u hu
      rw [e1] at hu
      simp at hu
      rcases hu with rfl | rfl | rfl | rfl | rfl <;> rfl
    obtain ⟨g, cap, W', hrun, hown, hgrow, hat, hlt⟩ := run_append_lies (P := Tryz.prog) (w := W) 25 ty (gl + 1) 41 j0 _ 5 88 Tryz.underlying25 hj0 hj00 hj01 hj02 rfl (by omega) vc ks.length zs1 (own_base o1 (fun c hc => by have := (o1.lt c hc).1; omega)) ⟨gv, 0, none⟩ 1 cv zs2 hl5 (fun j u hu => by
      have := hcell j u hu
      rw [add_plain', Nat.zero_add] at this ⊢
      exact (hb.cell (p := ⟨gv, j, none⟩) hgv).trans this) hone (by omega) (by unfold maxLen; omega) (by omega) (by omega) W.heap.size rfl
    have hs2 : Span (gl + 1) Wb.heap.size F2 := ⟨(List.nodup_append.1 s2.1).2.1, fun b hb' => s2.2 b (by simp [hb'])⟩
    have hj := Fresh.join (W := W) (W1 := W') (B := gl + 1) (gg := g) (c2 := cap) (v1 := vc) (l1 := ks) (l2 := [y]) c1 (OwnC.keep _ _ _ (fun b hb' => hb.block b (hs2.2 b hb').2) c2) s1 hs2 hgl hz hgrow hat hown
    refine ⟨_, W', hrun, ?_, hj⟩
    refine hb.grown hgrow hz (fun k hk' => ?_)
    exact (o1.lt k hk').1
end Go.Proofs.YteefodibpjgicaaGreat

namespace Go.Proofs.YteefodibpjgicaaGreat
open Go.RowKit Go.Shelf
attribute [local go_sem] Oper.semAt_some
theorem World.ownsRow_of_alloc5 (w : World) (B : Nat) (e : TypeId) (cs : List Value) (hB : B ≤ w.heap.size) (hl : cs.length = 5) : (w.alloc (.cells cs.toArray e)).ownsRow B e 5 (.slice (some ⟨w.heap.size, 0, none⟩) 1 1) 1 cs :=
  ⟨by omega, .inr ⟨w.heap.size, 1, cs.toArray, rfl, hB, heap_alloc_new w _, Nat.le_refl _, by unfold maxLen; omega, by simp; omega, by
    rw [List.take_of_length_le (by simp; omega)]⟩⟩
theorem Bld.evs {F : Nat → Prop} {w : World} {g mb : Nat} {vo vt pt : Value} {fs : List FV} {tx : List UInt8} {n q : Nat} {D : DataW Unit} {s : M7.St} (h : Bld F w g mb vo vt pt fs tx n D) (hI : BInv fs tx n D s q) (hq : q ≤ 400000) : ∀ f ∈ fs, RepV F w f.x f.va f.vk ∧ M3.weight f.x.kids ≤ 1000000 ∧ f.x.attrs.length ≤ 1000000 := by
  intro f hf
  obtain ⟨xs, h1, h2⟩ := h.kids f hf
  obtain ⟨i, hi⟩ := List.mem_iff_getElem?.1 hf
  refine ⟨⟨(h.atts f hf).mono (fun b hb => hb.1), xs, Row.own h1 (fun c hc => h.sub (i + 4) c (by rw [Bld.kid_role hi]; exact hc)), RepC.mono (fun b hb => hb.1) _ _ h2⟩, ?_, ?_⟩
  · have := (hI.fits f hf).1; omega
  · have := (hI.fits f hf).2; omega
set_option maxRecDepth 100000 in
set_option maxHeartbeats 8000000 in
theorem bNodes_in (n : Nat) (hn : 3 ≤ n) {F : Nat → Prop} {w : World} {g mb q : Nat} {s : M7.St} (h : BS F w g mb s q) (hq : q ≤ 400000) :
    CallsIn Fence.wide n Tryz.prog 206 #[.pointer (some ⟨g, 0, none⟩)] w fun e W' => ∃ v, e = .returned v ∧ Fresh W' w.heap.size v s.L ∧ BS F W' g mb s q ∧ Out F w W' := by
  have hmx : Tryz.prog.follows .mixedOrders = true := by kernel_rfl
  obtain ⟨vo, vt, pt, fs, tx, n0, D, hB, hI⟩ := h
  have hro : Fence.wide.round = none := rfl
  have h1 : 1 ≤ n := by omega
  have hlt := Lib.hid hB.lt
  have bL0 := Boxed.new w 25 (.slice none 0 0)
  have hB0 : Below w.heap.size w (w.alloc (.cells #[.slice none 0 0] 25)) := (Below.refl _ w).alloc (Nat.le_refl _) _
  have hsz : (w.alloc (.cells #[.slice none 0 0] 25)).heap.size = w.heap.size + 1 := by simp
  have hBl := hB.below hB0
  obtain ⟨at_, ct, hvt⟩ := hB.text_slice
  have hLen : Hid (∀ W, Bld F W g mb vo vt pt fs tx n0 D → Calls Tryz.prog 208 #[.pointer (some ⟨g, 1, none⟩)] W fun e w' => e = .returned (.int .i64 (tx.length : Int)) ∧ W = w') := fun W hW => by
    have b2 := hW.box.cell (i := 2) rfl
    rw [hvt] at b2
    exact bxLen g _ _ _ W b2
  have hTold : Hid (tx ≠ [] → ∀ W, Bld F W g mb vo vt pt fs tx n0 D → Calls Tryz.prog 209 #[.pointer (some ⟨g, 0, none⟩)] W fun e w' => e = .returned (textV tx) ∧ Bld F w' g mb vo vt pt fs tx n0 D ∧ Out F W w') := fun ht W hW => bTold2 hW ht
  replace hI := Lib.hid hI
  replace hBl := Lib.hid hBl
  clear hB
  refine callsIn_of_wp_marks Tryz.func206 rfl trivial ?_ hro
  simp only [Tryz.ntmps206, List.size_toArray, List.length_cons, List.length_nil, Nat.reduceAdd, Nat.reduceSub, Array.replicate_succ, Array.replicate_zero, List.push_toArray, List.append_toArray, List.nil_append, List.cons_append]
  gi_upto_if 11 with (refine ⟨trivial, ?_⟩; gi_at_call 208; refine (callsIn_wide.2 (hLen.out _ hBl.out)).mono ?_; rintro e w' ⟨rfl, rfl⟩)
  obtain ⟨w0, hw0⟩ : ∃ W, w.alloc (.cells #[.slice none 0 0] 25) = W := ⟨_, rfl⟩
  rw [hw0] at bL0 hB0 hsz hBl ⊢
  clear hw0
  gi_cut [] from 7 (fun wx => Bld F wx g mb vo vt pt fs tx n0 D ∧ Out F w wx ∧ (∃ v, Boxed wx w.heap.size 25 v ∧ Fresh wx (w.heap.size + 1) v (M7.endK tx) ∧ (M7.endK tx = [] → v = .slice none 0 0)) ∧ w.heap.size + 1 ≤ wx.heap.size)
  case first =>
    by_cases htx : tx = []
    · have hN : ∃ v, Boxed w0 w.heap.size 25 v ∧ Fresh w0 (w.heap.size + 1) v (M7.endK tx) ∧ (M7.endK tx = [] → v = .slice none 0 0) := ⟨_, bL0, by rw [htx]; exact Fresh.nil _ _, fun _ => rfl⟩
      have ht0 : decide ((0 : Int) < (tx.length : Int)) = false := by rw [htx]; rfl
      have ht1 : ¬ (0 < tx.length) := by rw [htx]; decide
      have ht2 : ¬ ((0 : Int) < (tx.length : Int)) := by omega
      replace hN := Lib.hid hN
      clear htx
      gi_wp2_with (fail)
      gi_meet
      case rel => exact ⟨hBl.out, ⟨hB0.os, hB0.tape, hB0.output, hB0.size, fun b hb _ => hB0.block b hb⟩, hN.out, by omega⟩
    · have htl : 0 < tx.length := List.length_pos_iff.2 htx
      have ht0 : decide ((0 : Int) < (tx.length : Int)) = true := decide_eq_true (by omega)
      gi_wp2_with (refine ⟨trivial, ?_⟩; gi_at_call 209; refine (callsIn_wide.2 (hTold.out htx _ hBl.out)).mono ?_; rintro e w1 ⟨rfl, hB1, hO1⟩; have bL1 : Boxed w1 w.heap.size 25 (.slice none 0 0) := (hO1.block _ (by omega) (fun e => by have := hlt.out _ e; omega)).trans bL0; have cL := (bL1.alloc (.cells #[.int .i64 2, .string ⟨#[]⟩, .slice none 0 0, .string ⟨tx.toArray⟩, .slice none 0 0] 41)).cell; have fL := (bL1.alloc (.cells #[.int .i64 2, .string ⟨#[]⟩, .slice none 0 0, .string ⟨tx.toArray⟩, .slice none 0 0] 41)).frozen; replace hB1 := Lib.hid hB1; replace hO1 := Lib.hid hO1; replace bL1 := Lib.hid bL1)
      gi_meet
      case rel =>
        have hb1 : Below w1.heap.size w1 (w1.alloc (.cells #[.int .i64 2, .string ⟨#[]⟩, .slice none 0 0, .string ⟨tx.toArray⟩, .slice none 0 0] 41)) := (Below.refl _ w1).alloc (Nat.le_refl _) _
        have hz1 := hO1.out.size
        have hbl : ∀ b, F b → b ≠ w.heap.size := fun b hb e => by have := hlt.out b hb; omega
        refine ⟨hB1.out.keep (fun _ h => h) (fun b hb => by have := hlt.out b hb; simp; omega) (fun b hb => (Below.heap_setCell _ _ _ _ (hbl b hb)).trans (hb1.block b (by have := hlt.out b hb; omega))), ⟨hO1.out.os.trans hB0.os, hO1.out.tape.trans hB0.tape, hO1.out.output.trans hB0.output, by simp; omega, fun b hb hF => (Below.heap_setCell _ _ _ _ (by show b ≠ w.heap.size; omega)).trans ((hb1.block b (by omega)).trans ((hO1.out.block b (by omega) hF).trans (hB0.block b hb)))⟩, ⟨_, ((bL1.out.alloc _).set _), ?_, fun e => by rw [M7.endK_cons htx] at e; cases e⟩, by simp; omega⟩
        have hown := World.ownsRow_of_alloc5 w1 (w.heap.size + 1) 41 [.int .i64 2, .string ⟨#[]⟩, .slice none 0 0, .string ⟨tx.toArray⟩, .slice none 0 0] (by omega) rfl
        rw [M7.endK_cons htx]
        refine Fresh.keep (w := w1.alloc (.cells #[.int .i64 2, .string ⟨#[]⟩, .slice none 0 0, .string ⟨tx.toArray⟩, .slice none 0 0] 41)) ⟨_, [], hown, OwnC.cons_iff.2 ⟨.slice none 0 0, .slice none 0 0, [], [], [], [], rfl, World.ownsRow_nil _ _ _ _, World.ownsRow_nil _ _ _ _, rfl, OwnC.nil _, OwnC.nil _⟩, ?_⟩ (fun b hb _ => Below.heap_setCell _ _ _ _ (by show b ≠ w.heap.size; omega)) (by simp)
        exact ⟨by simp [Value.ownBlock], fun b hb => by simp [Value.ownBlock] at hb; subst hb; simp; omega⟩
  case rest =>
    obtain ⟨hBc, hOc, ⟨v0, bLc, hFc, hnc⟩, hzc⟩ := hcut
    replace hnc := Lib.hid hnc
    have k0 := hBc.box.cell (i := 0) rfl
    obtain ⟨go, cap, hvo, hvc, hvm, hcl⟩ := hBc.open_slice hI.out.ne
    rw [hvo] at k0
    have hgo : F go := hBc.sub 2 go (by rw [hvo]; rfl)
    have hfs := hI.out.fsq
    have hfp := List.length_pos_iff.2 hI.out.ne
    obtain ⟨T, hT, hix⟩ := EV.of (S := F) (w0 := wc) 0 fs (hBc.evs hI.out hq)
    have hTl : T.length = fs.length := by rw [← hT, List.length_map]
    have hL := hI.out.L
    have hzl : (M7.endK tx).length ≤ 1 := by unfold M7.endK; split <;> simp
    replace hBc := Lib.hid hBc
    replace hcl := Lib.hid hcl
    replace hix := Lib.hid hix
    replace hT := Lib.hid hT
    replace hL := Lib.hid hL
    replace hFc := Lib.hid hFc
    replace hOc := Lib.hid hOc
    gi_wp2_with (refine ⟨trivial, ?_⟩; gi_at_call 210; refine (bwd Fence.wide (n - 1) trivial hro _ _ _ _).mono ?_; rintro e w' ⟨rfl, rfl⟩)
    have hbd : Below wc.heap.size wc (wc.alloc (.cells #[.slice (some ⟨go, 0, none⟩) fs.length cap] 190)) := (Below.refl _ wc).alloc (Nat.le_refl _) _
    have bBt := Boxed.new wc 190 (.slice (some ⟨go, 0, none⟩) fs.length cap)
    have hszd : (wc.alloc (.cells #[.slice (some ⟨go, 0, none⟩) fs.length cap] 190)).heap.size = wc.heap.size + 1 := by simp
    obtain ⟨wd, hwd⟩ : ∃ W, wc.alloc (.cells #[.slice (some ⟨go, 0, none⟩) fs.length cap] 190) = W := ⟨_, rfl⟩
    rw [hwd] at hbd bBt hszd ⊢
    clear hwd
    have hI0 : NI w.heap.size wd (bkN (M7.endK tx) []) wd := ⟨v0, hbd.block _ bLc.lt |>.trans bLc, hFc.out.cells (fun b ⟨cs, t, hc⟩ => hbd.block b (Array.getElem?_eq_some_iff.1 hc).1) hbd.size, hnc.out, Out.refl _ _⟩
    refine wpIn_rangeFunc_ownH hro h1 (gf := 217) (lb := #[.pointer (some ⟨wc.heap.size, 0, none⟩)]) rfl trivial (enters_of Tryz.func217 (by kernel_rfl) rfl)
      (bwdStops Fence.wide (n - 1) trivial hro (by omega) F wc wc.heap.size go cap (fun b => F b ∨ b = wc.heap.size) T wd (fun i hi => by have := hix.out i hi; omega) (.inr rfl) (.inl hgo) (fun b hb => by rcases hb with hb | hb; (have := hlt.out b hb; omega); omega) (by omega) (by omega) (by rw [hTl]; exact bBt.cell) (fun j u hu => by rw [hT.out] at hu; exact (hbd.cell (p := ⟨go, j, none⟩) (World.block_lt_of_cell? wc _ (hcl.out j u hu))).trans (hcl.out j u hu)))
      (fun h k => h.trans k) (kpP_b (fun b hb => by rcases hb with hb | hb; (have := hlt.out b hb; omega); omega)) (Below.refl _ _) (fun _ => rfl)
      (fun pre W => NI w.heap.size wd (bkN (M7.endK tx) (pre.map (fun x => x.f.x))) W)
      (fun _ _ _ => False)
      (NI.own (fun (pre : List (EV F wc)) => bkN (M7.endK tx) (pre.map (fun x => x.f.x))))
      (fun _ _ _ _ _ hs _ _ => hs)
      hI0
      (fun x a' W => ∃ Bx, wd.heap.size ≤ Bx ∧ Box W Bx 189 x.f.cells ∧ a' = { tmps := #[.pointer (some ⟨g, 0, none⟩), undef, .slice none 0 0, .pointer (some ⟨w.heap.size, 0, none⟩), undef, .pointer (some ⟨Bx, 0, none⟩), undef, u7, u8, u9, u10, u11, u12, u13, u14, .pointer (some ⟨g, 0, none⟩), .pointer (some ⟨g, 0, none⟩), .pointer (some ⟨g, 0, none⟩), .slice (some ⟨go, 0, none⟩) fs.length cap, .func (.func 217) #[] #[.pointer (some ⟨wc.heap.size, 0, none⟩)], .int .i64 (x.ix : Int), eV x.f, u22, u23, u24, u25, u26, u27, u28, u29, u30, u31, u32, u33, u34, u35, u36, u37, u38, u39, u40], defers := [] })
      (fun x a' _ X Y row hs hg hr => by obtain ⟨Bx, h1, h2, h3⟩ := hs; exact ⟨Bx, h1, box_own h2 hg (fun r e => (hr r e).2), h3⟩)
      ?assign ?body ?done ?stop
    case assign =>
      rintro l0 pre x W K hIp hK
      obtain ⟨a1, c1, h1⟩ := x.rep.at_.slice
      obtain ⟨a2, c2, h2⟩ := x.rep.kids.slice
      have hx : EV.args x = #[.int .i64 (x.ix : Int), .agg #[.int .i64 x.f.x.kind, .string x.f.x.name, x.f.va, .string x.f.x.text, x.f.vk, .int .i64 (x.f.nx : Int)]] := rfl
      rw [hx]
      replace hK := Lib.hid hK
      gi_wp2
      have hb1 : Below W.heap.size W (W.alloc (.cells #[.int .i64 x.f.x.kind, .string x.f.x.name, .slice a1 x.f.x.attrs.length c1, .string x.f.x.text, .slice a2 x.f.x.kids.length c2, .int .i64 (x.f.nx : Int)] 189)) := (Below.refl _ W).alloc (Nat.le_refl _) _
      have hbox := Box.new W 189 x.f.cells
      unfold FV.cells at hbox
      rw [h1, h2] at hbox
      have hzW : wd.heap.size ≤ W.heap.size := by obtain ⟨_, _, _, _, ho⟩ := hIp; exact ho.size
      exact hK.out _ _ (kf_of_below hb1) (fun b hb => hb1.block b (by rcases hb with hb | hb; (have := hlt.out b hb; omega); omega)) (hIp.below hb1) ⟨W.heap.size, hzW, by unfold FV.cells; rw [h1, h2]; exact hbox, by unfold eV; rw [h1, h2]⟩
    case body =>
      rintro l pre x a' Wb hl ⟨r, hr⟩ hIp ⟨Bx, hBx, bX, rfl⟩ hltp
      obtain ⟨vl, bL, hFr, hnil, hOd⟩ := hIp
      obtain ⟨a1, c1, h1⟩ := x.rep.at_.slice
      obtain ⟨a2, c2, h2⟩ := x.rep.kids.slice
      unfold FV.cells at bX
      rw [h1, h2] at bX
      have hl1 := bkN_len (M7.endK tx) hzl (pre.map (fun x => x.f.x))
      have hzW := hOd.size
      have hgl1 : w.heap.size + 1 ≤ Wb.heap.size := by omega
      have hFl : Hid (∀ b, F b → b < Wb.heap.size) := fun b hb => by have := hlt.out b hb; omega
      have hsame : ∀ b, F b → Wb.heap[b]? = wc.heap[b]? := fun b hb => by
        have := hlt.out b hb
        exact (hOd.block b (by omega) (by show b ≠ w.heap.size; omega)).trans (hbd.block b (by omega))
      have hkid : Hid (RepN F Wb (.slice a2 x.f.x.kids.length c2) x.f.x.kids) := by
        have := x.rep.kids.keep hsame
        rw [h2] at this
        exact this
      have hatt : Hid (Row F Wb 2 (.slice a1 x.f.x.attrs.length c1) x.f.x.attrs.length (cellsA x.f.x.attrs)) := by
        have := x.rep.at_.keep hsame
        rw [h1] at this
        exact this
      replace bX := Lib.hid bX
      replace bL := Lib.hid bL
      have mixed := hmx
      replace hFr := Lib.hid hFr
      replace hnil := Lib.hid hnil
      replace hOd := Lib.hid hOd
      clear hsame
      gi_wp2_with (fail)
      refine wpIn_region_known (n := 7) ([some (.pointer (some ⟨Bx, 0, none⟩)), some (.pointer (some ⟨Bx, 4, none⟩)), some (.slice a2 x.f.x.kids.length c2), none, some (vl), none, none] : List (Option Value)) (fun t => ⟨#[Value.pointer (some ⟨g, 0, none⟩), undef, Value.slice none 0 0, Value.pointer (some ⟨w.heap.size, 0, none⟩), undef, Value.pointer (some ⟨Bx, 0, none⟩), t 6, u7, u8, u9, u10, u11, u12, u13, u14, Value.pointer (some ⟨g, 0, none⟩), Value.pointer (some ⟨g, 0, none⟩), Value.pointer (some ⟨g, 0, none⟩), Value.slice (some ⟨go, 0, none⟩) fs.length cap, Value.func (Fn.func 217) #[] #[Value.pointer (some ⟨wc.heap.size, 0, none⟩)], Value.int IntKind.i64 (x.ix : Int), eV x.f, t 0, t 1, t 2, t 3, t 4, t 5, u28, u29, u30, u31, u32, u33, u34, u35, u36, u37, u38, u39, u40], []⟩) (fun f t W => NdI Wb (w.heap.size + 1) x.f.x.kids (bkN (M7.endK tx) (pre.map (fun x => x.f.x))) f t W) (fun j => match j with | 0 => u22 | 1 => u23 | 2 => u24 | 3 => u25 | 4 => u26 | 5 => u27 | 6 => undef | _ => undef) (by kernel_rfl) (by rfl) (by rfl) (by kernel_rfl) rfl ?i0 ?step ?fin
      case i0 =>
        exact NdI.start
      case step =>
        intro j0 hj0 f t W hfi hwt hcl hk2 hI
        have h53 : f 5 = true → f 3 = true := hcl 5 3 (by kernel_rfl)
        have h65 : f 6 = true → f 5 = true := hcl 6 5 (by kernel_rfl)
        have hcl32 : f 3 = true → f 2 = true := hcl 3 2 (by kernel_rfl)
        have hcl54 : f 5 = true → f 4 = true := hcl 5 4 (by kernel_rfl)
        clear hcl
        obtain rfl | rfl | rfl | rfl | rfl | rfl | rfl : j0 = 0 ∨ j0 = 1 ∨ j0 = 2 ∨ j0 = 3 ∨ j0 = 4 ∨ j0 = 5 ∨ j0 = 6 := by omega
        · -- operation 0
          replace hI := Lib.hid hI
          replace hk2 := Lib.hid hk2
          clear hwt
          refine wpOpIn_step rfl (fun K hK => ?_)
          go_simp
          exact hK _ _ ⟨_, by simp [updT], hk2.out.at_ rfl, hI.out.same _ _ (by decide) (by decide) (by decide)⟩
        · -- operation 1
          have e0 : t 0 = .pointer (some ⟨Bx, 0, none⟩) := hk2 0 _ (hwt 0 (by kernel_rfl)) rfl
          replace hI := Lib.hid hI
          replace hk2 := Lib.hid hk2
          clear hwt
          refine wpOpIn_step rfl (fun K hK => ?_)
          go_simp
          exact hK _ _ ⟨_, by simp [updT, e0], hk2.out.at_ rfl, hI.out.same _ _ (by decide) (by decide) (by decide)⟩
        · -- operation 2
          have e1 : t 1 = .pointer (some ⟨Bx, 4, none⟩) := hk2 1 _ (hwt 1 (by kernel_rfl)) rfl
          have hW : W = Wb.drew := hI.1 (Bool.eq_false_iff.2 (fun h => by have q := hcl32 h; rw [hfi] at q; cases q))
          have k4 := bX.out.cell (i := 4) rfl
          subst hW
          replace hk2 := Lib.hid hk2
          replace hI := Lib.hid hI
          clear hwt
          refine wpOpIn_step rfl (fun K hK => ?_)
          go_simp
          exact hK _ _ ⟨_, by simp [updT, e1], hk2.out.at_ rfl, hI.out.same _ _ (by decide) (by decide) (by decide)⟩
        · -- operation 3
          have e2 : t 2 = .slice a2 x.f.x.kids.length c2 := hk2 2 _ (hwt 2 (by kernel_rfl)) rfl
          have hW : W = Wb.drew := hI.1 hfi
          have h5 : f 5 = false := Bool.eq_false_iff.2 (fun h => by rw [h53 h] at hfi; cases hfi)
          have h6 : f 6 = false := Bool.eq_false_iff.2 (fun h => by rw [h65 h] at h5; cases h5)
          subst hW
          have hC := Lib.hid (domClone (M3.weight x.f.x.kids + 1) F (.slice a2 x.f.x.kids.length c2) x.f.x.kids Wb.drew (by omega) x.few.1 (fun b h => hFl.out b h) (hkid.out.keep (fun _ _ => rfl)))
          replace hk2 := Lib.hid hk2
          replace hI := Lib.hid hI
          clear hwt
          refine wpOpIn_step rfl (fun K hK => ?_)
          go_simp
          refine ⟨trivial, (fun h => by cases h), ?_⟩
          refine (CallsIn.inRound l (callsIn_wide.2 hC.out)).mono ?_
          rintro e w5 ⟨v5, rfl, hf5, hb5⟩
          exact hK _ _ ⟨v5, by simp [updT, e2], hk2.out.free rfl, NdI.clone h5 h6 ⟨hb5.os, hb5.tape, hb5.output, hb5.size, hb5.block⟩ hf5⟩
        · -- operation 4
          have hbW : W.cell? ⟨w.heap.size, 0, none⟩ = some vl := by
            cases h3 : f 3
            · rw [hI.1 h3]; exact bL.out.cell
            · have h5 : f 5 = false := Bool.eq_false_iff.2 (fun h => by have q := hcl54 h; rw [hfi] at q; cases q)
              exact ((hI.2.1 h3 h5).1.cell (p := ⟨w.heap.size, 0, none⟩) bL.out.lt).trans bL.out.cell
          replace hk2 := Lib.hid hk2
          replace hI := Lib.hid hI
          clear hwt
          refine wpOpIn_step rfl (fun K hK => ?_)
          go_simp
          exact hK _ _ ⟨_, by simp [updT, ], hk2.out.at_ rfl, hI.out.same _ _ (by decide) (by decide) (by decide)⟩
        · -- operation 5
          have e4 : t 4 = vl := hk2 4 _ (hwt 4 (by kernel_rfl)) rfl
          have h3 := hwt 3 (by kernel_rfl)
          have h6 : f 6 = false := Bool.eq_false_iff.2 (fun h => by rw [h65 h] at hfi; cases hfi)
          obtain ⟨hb3, hf3⟩ := hI.2.1 h3 hfi
          obtain ⟨r5, w5, hrun5, hb5, hf5⟩ := lastly hb3 hf3 hFr.out hnil.out hl1 hgl1 (by have := M3.length_le_weight x.f.x.kids; have := x.few.1; omega) 25
          replace hk2 := Lib.hid hk2
          replace hI := Lib.hid hI
          clear hwt
          refine wpOpIn_append_run rfl rfl _ _ 25 rfl _ _ _ rfl (by show t 4 = _; exact e4) hrun5 ?_
          exact ⟨r5, by simp [updT, Act.put], hk2.out.free rfl, NdI.app h3 h6 hb5 hf5⟩
        · -- operation 6
          replace hk2 := Lib.hid hk2
          replace hI := Lib.hid hI
          clear hwt
          refine wpOpIn_step rfl (fun K hK => ?_)
          go_simp
          exact hK _ _ ⟨_, by simp [updT], hk2.out.free rfl, hI.out.fin⟩
      case fin =>
        intro f t W hall hk2 hI
        have e6 := hI.2.2.2 (hall 6 (by omega))
        obtain ⟨hb6, hf6⟩ := hI.2.2.1 (hall 5 (by omega))
        rw [e6]
        generalize t 5 = vK at *
        clear hk2 hall hI e6
        have bXW := bX.out.below hb6 bX.out.lt
        have bLW : Boxed W w.heap.size 25 vl := (hb6.block _ bL.out.lt).trans bL.out
        have x1 := bXW.cell (i := 1) rfl
        have x2 := bXW.cell (i := 2) rfl
        have hz6 := hb6.size
        generalize hkl : x.f.x.kids ++ bkN (M7.endK tx) (pre.map (fun x => x.f.x)) = kl at hf6
        replace hkl := Lib.hid hkl
        obtain ⟨zsK, FK, oK, cK, sK⟩ := hf6
        obtain ⟨aK, ccK, rfl⟩ := own_slice oK
        have hB7 := Lib.hid (bBegun F x.f.x.name x.f.x.attrs (.slice a1 x.f.x.attrs.length c1) (.slice aK kl.length ccK) W (hatt.out.keep (fun b hb => hb6.block b (hFl.out b hb))) (fun b hb => by have := hFl.out b hb; omega) ⟨_, _, _, rfl⟩ x.few.2)
        replace oK := Lib.hid oK
        replace cK := Lib.hid cK
        replace sK := Lib.hid sK
        replace bLW := Lib.hid bLW
        clear bXW
        gi_wp2_with (fail)
        refine ⟨trivial, (fun h => by cases h), ?_⟩
        refine (CallsIn.inRound l (callsIn_wide.2 hB7.out)).mono ?_
        rintro e W7 ⟨va7, rfl, o7, hb7⟩
        obtain ⟨a7, c7, rfl⟩ := own_slice o7
        have bL7 : Boxed W7 w.heap.size 25 vl := (hb7.block _ bLW.out.lt).trans bLW.out
        have bL8 := bL7.alloc (.cells #[.int .i64 1, .string x.f.x.name, .slice a7 x.f.x.attrs.length c7, .string ⟨#[]⟩, .slice aK kl.length ccK] 41)
        have cL := bL8.cell
        have fL := bL8.frozen
        have hz7 := hb7.size
        have hb8 : Below W7.heap.size W7 (W7.alloc (.cells #[.int .i64 1, .string x.f.x.name, .slice a7 x.f.x.attrs.length c7, .string ⟨#[]⟩, .slice aK kl.length ccK] 41)) := (Below.refl _ W7).alloc (Nat.le_refl _) _
        have hs8 : (W7.alloc (.cells #[.int .i64 1, .string x.f.x.name, .slice a7 x.f.x.attrs.length c7, .string ⟨#[]⟩, .slice aK kl.length ccK] 41)).heap.size = W7.heap.size + 1 := by simp
        have o8 := World.ownsRow_of_alloc5 W7 (w.heap.size + 1) 41 [.int .i64 1, .string x.f.x.name, .slice a7 x.f.x.attrs.length c7, .string ⟨#[]⟩, .slice aK kl.length ccK] (by omega) rfl
        change (W7.alloc (.cells #[.int .i64 1, .string x.f.x.name, .slice a7 x.f.x.attrs.length c7, .string ⟨#[]⟩, .slice aK kl.length ccK] 41)).ownsRow _ _ _ _ _ _ at o8
        have hB8 : Below Wb.heap.size Wb (W7.alloc (.cells #[.int .i64 1, .string x.f.x.name, .slice a7 x.f.x.attrs.length c7, .string ⟨#[]⟩, .slice aK kl.length ccK] 41)) := (hb6.trans (hb7.mono hz6)).trans (hb8.mono (by omega))
        have hNew : Fresh (W7.alloc (.cells #[.int .i64 1, .string x.f.x.name, .slice a7 x.f.x.attrs.length c7, .string ⟨#[]⟩, .slice aK kl.length ccK] 41)) (w.heap.size + 1) (.slice (some ⟨W7.heap.size, 0, none⟩) 1 1) [M7.el x.f.x kl] := by
          have oK8 := own_keep (w' := W7.alloc (.cells #[.int .i64 1, .string x.f.x.name, .slice a7 x.f.x.attrs.length c7, .string ⟨#[]⟩, .slice aK kl.length ccK] 41)) oK.out (fun c hc => (hb8.block c (by have := (oK.out.lt c hc).2; omega)).trans (hb7.block c (oK.out.lt c hc).2))
          have cK8 := OwnC.keep (w' := W7.alloc (.cells #[.int .i64 1, .string x.f.x.name, .slice a7 x.f.x.attrs.length c7, .string ⟨#[]⟩, .slice aK kl.length ccK] 41)) _ _ _ (fun c hc => (hb8.block c (by have := (sK.out.2 c (by simp [hc])).2; omega)).trans (hb7.block c (sK.out.2 c (by simp [hc])).2)) cK.out
          have o78 := own_keep (w' := W7.alloc (.cells #[.int .i64 1, .string x.f.x.name, .slice a7 x.f.x.attrs.length c7, .string ⟨#[]⟩, .slice aK kl.length ccK] 41)) o7 (fun c hc => hb8.block c (o7.lt c hc).2)
          refine ⟨_, ((Value.slice a7 x.f.x.attrs.length c7).ownBlock.toList ++ ((Value.slice aK kl.length ccK).ownBlock.toList ++ FK)) ++ [], o8, OwnC.cons_iff.2 ⟨_, _, zsK, [], FK, [], rfl, own_base o78 (fun _ _ => Nat.zero_le _), own_base oK8 (fun _ _ => Nat.zero_le _), rfl, cK8, OwnC.nil _⟩, ?_⟩
          have s7 : Span W.heap.size W7.heap.size (Value.slice a7 x.f.x.attrs.length c7).ownBlock.toList := Span.own o7
          rw [List.append_nil, hs8]
          show Span _ _ ((some W7.heap.size).toList ++ _)
          rw [Option.toList_some]
          have hall : ∀ c ∈ (Value.slice a7 x.f.x.attrs.length c7).ownBlock.toList ++ ((Value.slice aK kl.length ccK).ownBlock.toList ++ FK), w.heap.size + 1 ≤ c ∧ c < W7.heap.size := fun c hc => by
            rcases List.mem_append.1 hc with hc | hc
            · have := s7.2 c hc; omega
            · have := sK.out.2 c hc; omega
          refine ⟨?_, fun c hc => ?_⟩
          · rw [List.singleton_append, List.nodup_cons]
            refine ⟨fun hc => by have := hall _ hc; omega, List.nodup_append.2 ⟨s7.1, sK.out.1, fun c hc d hd e => ?_⟩⟩
            have h1 := (s7.2 c hc).1
            have h2 := (sK.out.2 d hd).2
            omega
          · rcases List.mem_cons.1 hc with rfl | hc
            · omega
            · have := hall c hc; omega
        replace bL8 := Lib.hid bL8
        replace o7 := Lib.hid o7
        replace o8 := Lib.hid o8
        replace hNew := Lib.hid hNew
        replace hB8 := Lib.hid hB8
        clear oK cK sK hb8 bL7 hB7
        gi_wp2_with (fail)
        have hF9 := hNew.out.keep (w' := (W7.alloc (.cells #[.int .i64 1, .string x.f.x.name, .slice a7 x.f.x.attrs.length c7, .string ⟨#[]⟩, .slice aK kl.length ccK] 41)).setCell ⟨w.heap.size, 0, none⟩ (.slice (some ⟨W7.heap.size, 0, none⟩) 1 1)) (fun b hb _ => Below.heap_setCell _ _ _ _ (by show b ≠ w.heap.size; omega)) (by simp)
        have hOut9 : Out (fun b => b = w.heap.size) wd ((W7.alloc (.cells #[.int .i64 1, .string x.f.x.name, .slice a7 x.f.x.attrs.length c7, .string ⟨#[]⟩, .slice aK kl.length ccK] 41)).setCell ⟨w.heap.size, 0, none⟩ (.slice (some ⟨W7.heap.size, 0, none⟩) 1 1)) :=
          ⟨hB8.out.os.trans hOd.out.os, hB8.out.tape.trans hOd.out.tape, hB8.out.output.trans hOd.out.output, by have := hB8.out.size; simp; omega, fun b hb hn => (Below.heap_setCell _ _ _ _ hn).trans ((hB8.out.block b (by omega)).trans (hOd.out.block b hb hn))⟩
        refine ⟨(kf_of_below hB8.out).trans ((KeepsOthers.setCell _ _ _).from _), fun b hb => ?_, ?_⟩
        · have hbl : b < Wb.heap.size ∧ b ≠ w.heap.size := by
            rcases hb with hb | hb
            · exact ⟨hFl.out b hb, by have := hlt.out b hb; omega⟩
            · omega
          exact (Below.heap_setCell _ _ _ _ hbl.2).trans (hB8.out.block b hbl.1)
        · show NI _ _ (bkN (M7.endK tx) ((pre ++ [x]).map (fun x => x.f.x))) _
          rw [List.map_append, List.map_cons, List.map_nil, bkN_snoc, hkl.out]
          exact ⟨_, bL8.out.set _, hF9, (fun e => by cases e), hOut9⟩
    case done =>
      rintro D2 ys Wd hD2 rfl hIp hK
      obtain ⟨vl, bL, hFr, hnil, hOd⟩ := hIp
      obtain ⟨f0, fr, hf0⟩ : ∃ f0 fr, fs = f0 :: fr := by
        cases hfs0 : fs with
        | nil => rw [hfs0] at hfp; simp at hfp
        | cons a b => exact ⟨a, b, rfl⟩
      have e : bkN (M7.endK tx) (T.reverse.map (fun x => x.f.x)) = [M7.el f0.x s.L] := by
        have e1 : T.reverse.map (fun x => x.f.x) = (fs.map FV.x).reverse := by
          rw [List.map_reverse, ← hT.out, List.map_map]; rfl
        rw [e1, hL.out, hf0, List.map_cons, bkN_tr]
      rw [e] at hFr
      obtain ⟨zs2, F2, o2, c2, s2⟩ := hFr
      obtain ⟨va, vk, zs, ys2, G1, G2, e1, e2, e3, e4, e5, e6⟩ := OwnC.cons_iff.1 c2
      rcases o2.2 with ⟨_, h0⟩ | ⟨gv, cv, cur, rfl, q1, q2, q3, q4, q5, q6⟩
      · cases h0
      have c4 := (own_cell o2 4 vk (by rw [e1]; rfl)).1
      obtain ⟨ak, ck, rfl⟩ := own_slice e3
      have hRes : Fresh Wd w.heap.size (.slice ak (M7.el f0.x s.L).kids.length ck) s.L := by
        refine ⟨zs, G1, own_base e3 (fun c hc => ?_), e5, ?_⟩
        · have := s2.2 c (by rw [e4]; simp [hc]); omega
        · have hsub : ∀ c ∈ (Value.slice ak (M7.el f0.x s.L).kids.length ck).ownBlock.toList ++ G1, w.heap.size ≤ c ∧ c < Wd.heap.size := fun c hc => by
            have := s2.2 c (by rw [e4]; simp only [List.mem_append] at hc ⊢; right; left; right; exact hc)
            omega
          refine ⟨?_, hsub⟩
          have := s2.1
          rw [e4] at this
          have h1 := (List.nodup_append.1 this).2.1
          have h2 := (List.nodup_append.1 h1).1
          exact (List.nodup_append.1 h2).2.1
      have hKe := Lib.hid hK
      have cL := bL.cell
      have hzd := hOd.size
      replace hRes := Lib.hid hRes
      replace hOd := Lib.hid hOd
      have h01 : (0 : Int) < ((1 : Nat) : Int) := by decide
      clear o2 c2 s2 e1 e2 e3 e4 e5 e6 q1 q2 q3 q4 q5 q6
      gi_wp2
      have hpo : ∀ b, b < D2 → (Wd.putObj D2 (.deferred none)).heap[b]? = Wd.heap[b]? := fun b hb => by
        by_cases hb2 : b < Wd.heap.size
        · exact (grownBy_putObj' Wd D2 _).block b hb2 (fun e => by cases e; omega)
        · have := (Array.getElem?_eq_some_iff.1 hKe.out).1; omega
      have hgp := grownBy_putObj' Wd D2 (.deferred none)
      have hFb : ∀ b, F b → (Wd.putObj D2 (.deferred none)).heap[b]? = wc.heap[b]? := fun b hb => by
        have hbl := hlt.out b hb
        exact (hpo b (by omega)).trans ((hOd.out.block b (by omega) (by show b ≠ w.heap.size; omega)).trans (hbd.block b (by omega)))
      have hzp := hgp.size
      refine ⟨by simp, .inl ⟨_, _, rfl, run_takeDeferred hKe.out, ?_⟩⟩
      refine ⟨_, results_tmp rfl _ _ _, _, rfl, hRes.out.cells (fun b ⟨cs, t, hc⟩ => hgp.block b (Array.getElem?_eq_some_iff.1 hc).1 (fun e => by cases e; rw [hc] at hK; cases hK)) hzp, ⟨vo, vt, pt, fs, tx, n0, D, hBc.out.keep (fun _ h => h) (fun b hb => by have := hlt.out b hb; omega) hFb, hI.out⟩, ⟨?_, ?_, ?_, ?_, fun b hb hF => ?_⟩⟩
      · exact hgp.os.trans (hOd.out.os.trans (hbd.os.trans hOc.out.os))
      · exact hgp.tape.trans (hOd.out.tape.trans (hbd.tape.trans hOc.out.tape))
      · exact hgp.output.trans (hOd.out.output.trans (hbd.output.trans hOc.out.output))
      · omega
      · exact (hpo b (by omega)).trans ((hOd.out.block b (by omega) (by show b ≠ w.heap.size; omega)).trans ((hbd.block b (by omega)).trans (hOc.out.block b hb hF)))
    case stop =>
      rintro D2 c pre W _ _ h _
      exact h.elim
end Go.Proofs.YteefodibpjgicaaGreat
