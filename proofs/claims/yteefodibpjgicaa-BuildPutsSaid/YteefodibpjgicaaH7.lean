/- Texts joined: BldP, BldT, Lives7, Cut7, Ref03w, Shp7, Law07, Ref07c, Math7d, Ref07t, Law07t, Spoil, Law07k. -/
import Derived.Deep.RegionHeld3
import Derived.Deep.AppendLies
import Derived.Test.YteefodibpjgicaaH1
import Derived.Test.YteefodibpjgicaaH2
import Derived.Test.YteefodibpjgicaaH3
import Derived.Test.YteefodibpjgicaaH4
import Derived.Test.YteefodibpjgicaaH5
import Derived.Test.YteefodibpjgicaaH6
/- Package build: New, Nodes, Tree, Open. -/
namespace Go.Proofs.Yteefodibpjgicaa
open Go.RowKit Go.Maps

theorem bNodes {F : Nat → Prop} {w : World} {g mb q : Nat} {s : M7.St} (h : BS F w g mb s q) (hq : q ≤ 100) :
    Calls Try.prog 12 #[.pointer (some ⟨g, 0, none⟩)] w fun e W' => ∃ v, e = .returned v ∧ Fresh W' w.heap.size v s.L ∧ BS F W' g mb s q ∧ Out F w W' :=
  (callsIn_wide (n := 3)).1 (bNodes_in 3 (by omega) h hq)

def root0 : FV := ⟨.mk 0 ⟨#[]⟩ [] ⟨#[]⟩ [], .slice none 0 0, .slice none 0 0, 0⟩
theorem inv0 : BInv [root0] [] 0 (.map []) ⟨[], 0⟩ 0 := by
  refine ⟨rfl, rfl, fun j f h => by simp at h, fun A f h => ?_, fun j f h => by simp at h, fun nm => ⟨rfl, rfl⟩, by simp, by simp, by simp, by show M3.weight [] ≤ _; rw [M3.weight_nil]; omega, fun f h => ?_⟩
  · have : f = root0 := by
      have := congrArg List.getLast? h
      rw [List.getLast?_concat] at this
      simp at this
      exact this.symm
    subst this
    exact M7.noTx_nil
  · have : root0 = f := by simpa using h
    subst this
    rfl

set_option maxHeartbeats 4000000 in
set_option maxRecDepth 100000 in
theorem bNew (w : World) : Calls Try.prog 6 #[] w fun e w' => ∃ g mb, e = .returned (.pointer (some ⟨g, 0, none⟩)) ∧ BS (fun b => w.heap.size ≤ b ∧ b < w'.heap.size) w' g mb ⟨[], 0⟩ 0 ∧ Below w.heap.size w w' := by
  have hmm := @run_makeMap Try.prog 49
  have hb : Below w.heap.size w (((w.alloc (.cells #[.int .i64 0, .string ⟨#[]⟩, .slice none 0 0, .string ⟨#[]⟩, .slice none 0 0, .int .i64 0] 47)).alloc (.map #[] 0)).alloc (.cells #[.slice (some ⟨w.heap.size, 0, none⟩) 1 1, .pointer none, .slice none 0 0, .map (some (w.heap.size + 1))] 55)) := (((Below.refl _ w).alloc (Nat.le_refl _) _).alloc (by simp) _).alloc (by simp; omega) _
  have hB : Bld (fun b => w.heap.size ≤ b ∧ b < w.heap.size + 3) (((w.alloc (.cells #[.int .i64 0, .string ⟨#[]⟩, .slice none 0 0, .string ⟨#[]⟩, .slice none 0 0, .int .i64 0] 47)).alloc (.map #[] 0)).alloc (.cells #[.slice (some ⟨w.heap.size, 0, none⟩) 1 1, .pointer none, .slice none 0 0, .map (some (w.heap.size + 1))] 55)) (w.heap.size + 2) (w.heap.size + 1) (.slice (some ⟨w.heap.size, 0, none⟩) 1 1) (.slice none 0 0) (.pointer none) [root0] [] 0 (.map []) := by
    have hs1 : (w.alloc (.cells #[.int .i64 0, .string ⟨#[]⟩, .slice none 0 0, .string ⟨#[]⟩, .slice none 0 0, .int .i64 0] 47)).heap.size = w.heap.size + 1 := by simp
    have hs2 : ((w.alloc (.cells #[.int .i64 0, .string ⟨#[]⟩, .slice none 0 0, .string ⟨#[]⟩, .slice none 0 0, .int .i64 0] 47)).alloc (.map #[] 0)).heap.size = w.heap.size + 2 := by simp
    have hbx := Box.new ((w.alloc (.cells #[.int .i64 0, .string ⟨#[]⟩, .slice none 0 0, .string ⟨#[]⟩, .slice none 0 0, .int .i64 0] 47)).alloc (.map #[] 0)) 55 [.slice (some ⟨w.heap.size, 0, none⟩) 1 1, .pointer none, .slice none 0 0, .map (some (w.heap.size + 1))]
    rw [hs2] at hbx
    have hrow : (w.alloc (.cells #[.int .i64 0, .string ⟨#[]⟩, .slice none 0 0, .string ⟨#[]⟩, .slice none 0 0, .int .i64 0] 47)).ownsRow 0 47 6 (.slice (some ⟨w.heap.size, 0, none⟩) 1 1) 1 (cellsF [root0]) :=
      ⟨rfl, .inr ⟨w.heap.size, 1, _, rfl, Nat.zero_le _, heap_alloc_new w _, Nat.le_refl _, by unfold maxLen; omega, rfl, rfl⟩⟩
    have hmap := World.ownsMap_made (H := Unit) (w.alloc (.cells #[.int .i64 0, .string ⟨#[]⟩, .slice none 0 0, .string ⟨#[]⟩, .slice none 0 0, .int .i64 0] 47)) Try.prog 9 (plainElem Try.prog 3)
    rw [hs1] at hmap
    have hrole : ∀ i c, roleB (w.heap.size + 2) (w.heap.size + 1) (.slice (some ⟨w.heap.size, 0, none⟩) 1 1) (.slice none 0 0) [root0] i = some c → (i = 0 ∧ c = w.heap.size + 2) ∨ (i = 1 ∧ c = w.heap.size + 1) ∨ (i = 2 ∧ c = w.heap.size) := fun i c h => by
      match i, h with
      | 0, h => exact .inl ⟨rfl, (Option.some.inj h).symm⟩
      | 1, h => exact .inr (.inl ⟨rfl, (Option.some.inj h).symm⟩)
      | 2, h => exact .inr (.inr ⟨rfl, (Option.some.inj h).symm⟩)
      | 3, h => cases h
      | 4, h => cases h
      | i + 5, h =>
        have h : (([root0] : List FV)[i + 1]?).bind (fun f => f.vk.ownBlock) = some c := h
        rw [List.getElem?_eq_none (by simp)] at h
        cases h
    refine ⟨hbx, .inl rfl, (hrow.alloc _).alloc _, World.ownsRowF_nil _ _ _ _, hmap.alloc _, fun f hf => ?_, fun f hf => ?_, fun i j c h1 h2 => ?_, fun i c h => ?_, fun b hb => by simp; omega⟩
    · obtain rfl := List.mem_singleton.1 hf
      exact ⟨[], World.ownsRow_nil _ _ _ _, RepC.nil _ _⟩
    · obtain rfl := List.mem_singleton.1 hf
      exact Row.nil _ _ _
    · rcases hrole i c h1 with ⟨h3, h4⟩ | ⟨h3, h4⟩ | ⟨h3, h4⟩ <;> rcases hrole j c h2 with ⟨h5, h6⟩ | ⟨h5, h6⟩ | ⟨h5, h6⟩ <;> omega
    · rcases hrole i c h with ⟨h3, h4⟩ | ⟨h3, h4⟩ | ⟨h3, h4⟩ <;> omega
  have hsz : (((w.alloc (.cells #[.int .i64 0, .string ⟨#[]⟩, .slice none 0 0, .string ⟨#[]⟩, .slice none 0 0, .int .i64 0] 47)).alloc (.map #[] 0)).alloc (.cells #[.slice (some ⟨w.heap.size, 0, none⟩) 1 1, .pointer none, .slice none 0 0, .map (some (w.heap.size + 1))] 55)).heap.size = w.heap.size + 3 := by simp
  have hP : Hid (∃ g mb, (Ending.returned (.pointer (some ⟨w.heap.size + 2, 0, none⟩))) = .returned (.pointer (some ⟨g, 0, none⟩)) ∧ BS (fun b => w.heap.size ≤ b ∧ b < (((w.alloc (.cells #[.int .i64 0, .string ⟨#[]⟩, .slice none 0 0, .string ⟨#[]⟩, .slice none 0 0, .int .i64 0] 47)).alloc (.map #[] 0)).alloc (.cells #[.slice (some ⟨w.heap.size, 0, none⟩) 1 1, .pointer none, .slice none 0 0, .map (some (w.heap.size + 1))] 55)).heap.size) _ g mb ⟨[], 0⟩ 0 ∧ Below w.heap.size w _) :=
    ⟨_, _, rfl, ⟨_, _, _, _, _, _, _, by rw [hsz]; exact hB, inv0⟩, hb⟩
  clear hB hb hsz
  go_enter Try.func6, Try.ntmps6
  go_wp2
  go_ret
  exact hP.out

theorem Bld.open_sl {F : Nat → Prop} {w : World} {g mb : Nat} {vo vt pt : Value} {fs : List FV} {tx : List UInt8} {n q : Nat} {D : DataW Unit} {s : M7.St} (h : Bld F w g mb vo vt pt fs tx n D) (hI : BInv fs tx n D s q) : ∃ go cap, w.cell? ⟨g, 0, none⟩ = some (.slice (some ⟨go, 0, none⟩) fs.length cap) ∧ fs.length ≤ cap ∧ cap ≤ 9223372036854775807 ∧ F go ∧ ∀ j u, (cellsF fs)[j]? = some u → w.cell? ⟨go, j, none⟩ = some u := by
  obtain ⟨go, cap, hvo, q1, q2, q3⟩ := h.open_slice hI.ne
  have k0 := h.box.cell (i := 0) rfl
  rw [hvo] at k0
  exact ⟨go, cap, k0, q1, q2, h.sub 2 go (by rw [hvo]; rfl), q3⟩
theorem cellsF_at (fs : List FV) (j i : Nat) (f : FV) (u : Value) (hj : fs[j]? = some f) (hi : i < 6) (hu : f.cells[i]? = some u) : (cellsF fs)[j * 6 + i]? = some u := by
  obtain ⟨hjl, hjf⟩ := List.getElem?_eq_some_iff.1 hj
  have e : fs = fs.take j ++ f :: fs.drop (j + 1) := by
    rw [← hjf, ← List.drop_eq_getElem_cons hjl, List.take_append_drop]
  rw [e, cellsF_append, show f :: fs.drop (j + 1) = [f] ++ fs.drop (j + 1) from rfl, cellsF_append, cellsF_one]
  have hl : (cellsF (fs.take j)).length = j * 6 := by rw [cellsF_len]; simp; omega
  rw [List.getElem?_append_right (by omega), hl, show j * 6 + i - j * 6 = i by omega, List.getElem?_append_left (by simp [FV.cells]; omega)]
  exact hu
theorem namesW_at (fs : List FV) (j : Nat) (f : FV) (hj : fs[j + 1]? = some f) : (namesW fs)[j]? = some f.x.name := by
  unfold namesW M7.namesF
  rw [List.getElem?_map, List.getElem?_drop, List.getElem?_map, Nat.add_comm 1 j, hj]
  rfl

set_option maxHeartbeats 8000000 in
set_option maxRecDepth 100000 in
theorem bOpen {F : Nat → Prop} {w : World} {g mb q : Nat} {s : M7.St} (h : BS F w g mb s q) (hq : q ≤ 100) :
    Calls Try.prog 9 #[.pointer (some ⟨g, 0, none⟩)] w (NewTxs (M7.openN s.d s.L) w) := by
  obtain ⟨vo, vt, pt, fs, tx, n, D, hB, hI⟩ := h
  rw [hI.names]
  obtain ⟨go, cap, k0, hvc, hvm, hFg, hcl⟩ := hB.open_sl hI
  have hfs := hI.fsq
  have hfl : 0 < fs.length := List.length_pos_iff.2 hI.ne
  have hnl := namesW_len fs
  have hgl := hB.lt go hFg
  have hatt : ∀ (j : Nat) (f : FV), fs[j]? = some f → (∃ a c, f.va = .slice a f.x.attrs.length c) ∧ ∃ a c, f.vk = .slice a f.x.kids.length c := fun j f hj => by
    have hm := List.mem_of_getElem? hj
    refine ⟨(hB.atts f hm).slice, ?_⟩
    obtain ⟨xs, h1, _⟩ := hB.kids f hm
    exact own_slice h1
  have hg1 : (1 : Int) ≤ (fs.length : Int) := by omega
  have hg2 : (fs.length : Int) ≤ (cap : Int) := by omega
  have hgb := hB.box.lt
  replace hcl := Lib.hid hcl
  replace hatt := Lib.hid hatt
  replace hnl := Lib.hid hnl
  clear hB hI
  obtain ⟨wo, rfl⟩ : ∃ wo : World, wo = w := ⟨_, rfl⟩
  by_cases hc1 : cap = 1
  · have h1 : fs.length = 1 := by omega
    have hnil : namesW fs = [] := List.eq_nil_of_length_eq_zero (by rw [hnl.out, h1])
    rw [hnil]
    rw [h1, hc1] at k0
    clear hcl hatt hnl hvc hvm hfs hfl hg1 hg2 hc1 h1
    go_enter Try.func9, Try.ntmps9
    go_wp2_with fail
    go_loopw [3, 12] (fun u3 u12 wr => u12 = .int .i64 0 ∧ u3 = .slice none 0 0 ∧ wr = wo) (fun _ u12 _ => 0)
    case atStart => exact ⟨rfl, rfl, rfl⟩
    case round =>
      obtain ⟨rfl, rfl, rfl⟩ := hrel
      go_wp2_with fail
      go_ret
      exact ⟨_, rfl, Row.nil _ _ _, Below.refl _ _⟩
  have hcap : (cap : Int) ≠ 1 := by omega
  go_enter Try.func9, Try.ntmps9
  go_wp2_with fail
  go_loopw [3, 12] (fun u3 u12 wr => ∃ i : Nat, i + 1 ≤ fs.length ∧ u12 = .int .i64 (i : Int) ∧ wr.ownsRow wo.heap.size 9 1 u3 i (((namesW fs).take i).flatMap fun s => [.string s]) ∧ Below wo.heap.size wo wr) (fun _ u12 _ => fs.length - (intOf u12).toNat)
  case atStart => exact ⟨0, by omega, rfl, World.ownsRow_nil _ _ _ _, Below.refl _ _⟩
  case round =>
    obtain ⟨i, hi, rfl, hown, hb⟩ := hrel
    have hz := hb.size
    by_cases hlt : i + 1 < fs.length
    · obtain ⟨f, hf⟩ : ∃ f, fs[i + 1]? = some f := ⟨_, List.getElem?_eq_getElem hlt⟩
      obtain ⟨⟨a1, c1, e1⟩, ⟨a2, c2, e2⟩⟩ := hatt.out _ _ hf
      have hcx : ∀ j u, j < 6 → f.cells[j]? = some u → wr.cell? ⟨go, (i + 1) * 6 + j, none⟩ = some u := fun j u hj hu => (hb.cell (p := ⟨go, (i + 1) * 6 + j, none⟩) hgl).trans (hcl.out _ _ (cellsF_at fs (i + 1) j f u hf hj hu))
      have z0 := hcx 0 _ (by decide) rfl
      have z1 := hcx 1 _ (by decide) rfl
      have z2 := hcx 2 _ (by decide) rfl
      have z3 := hcx 3 _ (by decide) rfl
      have z4 := hcx 4 _ (by decide) rfl
      have z5 := hcx 5 _ (by decide) rfl
      rw [e1] at z2
      rw [e2] at z4
      rw [show (i + 1) * 6 = 6 + i * 6 by omega] at z0 z1 z2 z3 z4 z5
      simp only [Nat.add_zero] at z0
      have htk : (namesW fs).take (i + 1) = (namesW fs).take i ++ [f.x.name] := by rw [List.take_add_one, namesW_at fs i f hf]; rfl
      have hi1 : (i : Int) < (fs.length : Int) - 1 := by omega
      have hi0 : (0 : Int) ≤ (i : Int) := by omega
      replace htk := Lib.hid htk
      replace hcx := Lib.hid hcx
      have hb1 : Below wr.heap.size wr (wr.alloc (.cells #[.int .i64 f.x.kind, .string f.x.name, .slice a1 f.x.attrs.length c1, .string f.x.text, .slice a2 f.x.kids.length c2, .int .i64 (f.nx : Int)] 47)) := (Below.refl _ wr).alloc (Nat.le_refl _) _
      go_upto_region 5 with fail
      have bX := Box.new wr 47 [.int .i64 f.x.kind, .string f.x.name, .slice a1 f.x.attrs.length c1, .string f.x.text, .slice a2 f.x.kids.length c2, .int .i64 (f.nx : Int)]
      change Box (wr.alloc (.cells #[.int .i64 f.x.kind, .string f.x.name, .slice a1 f.x.attrs.length c1, .string f.x.text, .slice a2 f.x.kids.length c2, .int .i64 (f.nx : Int)] 47)) _ _ _ at bX
      have hown1 := own_keepW (w' := wr.alloc (.cells #[.int .i64 f.x.kind, .string f.x.name, .slice a1 f.x.attrs.length c1, .string f.x.text, .slice a2 f.x.kids.length c2, .int .i64 (f.nx : Int)] 47)) hown (fun c hc => hb1.block c (hown.lt c hc).2)
      obtain ⟨w1, hw1⟩ : ∃ W, wr.alloc (.cells #[.int .i64 f.x.kind, .string f.x.name, .slice a1 f.x.attrs.length c1, .string f.x.text, .slice a2 f.x.kids.length c2, .int .i64 (f.nx : Int)] 47) = W := ⟨_, rfl⟩
      rw [hw1] at hb1 bX hown1 ⊢
      have hbw : Below wo.heap.size wo w1 := bt hb hb1
      have y1 := bX.cell (i := 1) rfl
      have hz1 := hbw.size
      clear hw1 z0 z1 z2 z3 z4 z5 hown
      go_wp2_with (at_builtin
                   refine wpList_appK w1 [.string f.x.name] 1 rfl _ _ 35 9 rfl wo.heap.size Try.underlying35 infoStr rfl (by omega) _ i (((namesW fs).take i).flatMap fun s => [.string s]) rfl hown1 w1.heap.size rfl (by rfl) rfl (by simp [Value.oneCell']) (by omega) (by omega) hz1 ?_
                   intro g2 cp2 w2 hown2 hgrow2 hat2)
      have hb2 : Below wo.heap.size wo w2 := below_own hbw hown1 hgrow2 hz1 (Nat.le_refl _)
      have hown3 : w2.ownsRow wo.heap.size 9 1 (.slice (some ⟨g2, 0, none⟩) (i + 1) cp2) (i + 1) (((namesW fs).take (i + 1)).flatMap fun s => [.string s]) := by
        rw [htk.out, List.flatMap_append]; exact hown2
      clear hown2 hgrow2 hat2 hown1
      go_roundw
      case rel => exact ⟨i + 1, by omega, by go_num, hown3, hb2⟩
      case measure => exact meas_nat (n := fs.length) (by omega)
    · have hie : i = (namesW fs).length := by rw [hnl.out]; omega
      have hii : ¬ (i < fs.length - 1) := by omega
      have hi2 : ¬ ((i : Int) < (fs.length : Int) - 1) := by omega
      have hres : Hid (Txs (fun b => wo.heap.size ≤ b ∧ b < wr.heap.size) wr u3 (namesW fs)) := by
        rw [List.take_of_length_le (by omega)] at hown
        exact Row.mono (Row.own (S := fun b => wo.heap.size ≤ b ∧ b < wr.heap.size) (by rw [← hie]; exact hown) (fun g hg => ⟨by have := (hown.lt g hg).1; omega, (hown.lt g hg).2⟩)) (fun b h => h)
      clear hown
      go_wp2_with fail
      go_ret
      exact ⟨u3, rfl, hres.out, hb⟩
end Go.Proofs.Yteefodibpjgicaa

/- Package build: Tree. -/
namespace Go.Proofs.Yteefodibpjgicaa
open Go.RowKit Go.Maps

/-- Tokens as they are read: a row of them. -/
def TokR (S : Nat → Prop) (w : World) (v : Value) (l : List Tok) : Prop := ∃ xs, Row S w 4 v l.length xs ∧ RepT S w xs l
theorem TokR.keep {S : Nat → Prop} {w w' : World} {v : Value} {l : List Tok} (h : TokR S w v l) (hk : ∀ b, S b → w'.heap[b]? = w.heap[b]?) : TokR S w' v l := by
  obtain ⟨xs, h1, h2⟩ := h
  exact ⟨xs, h1.keep hk, RepT.keep hk _ _ h2⟩
theorem TokR.at_ {S : Nat → Prop} {w : World} {a : Option Addr} {n cap : Nat} {l : List Tok} (h : TokR S w (.slice a n cap) l) (i : Nat) (hi : i < l.length) : ∃ b off va, a = some ⟨b, off, none⟩ ∧ S b ∧ Row S w 2 va l[i].attrs.length (cellsA l[i].attrs) ∧
    w.cell? ⟨b, off + i * 4, none⟩ = some (.int .i64 l[i].kind) ∧ w.cell? ⟨b, off + i * 4 + 1, none⟩ = some (.string l[i].name) ∧ w.cell? ⟨b, off + i * 4 + 2, none⟩ = some va ∧ w.cell? ⟨b, off + i * 4 + 3, none⟩ = some (.string l[i].text) := by
  obtain ⟨xs, ⟨h0, a', cap', h1, h2, h3, h4, h5⟩, h6⟩ := h
  cases h1
  obtain ⟨b, off, rfl, h7, h8⟩ := h5 (by omega)
  obtain ⟨va, q0, q1, q2, q3, q4⟩ := RepT.at_ l xs i hi h6
  exact ⟨b, off, va, rfl, h7, q0, h8 _ _ q1, h8 _ _ q2, h8 _ _ q3, h8 _ _ q4⟩
theorem TokR.slice {S : Nat → Prop} {w : World} {v : Value} {l : List Tok} (h : TokR S w v l) : ∃ a c, v = .slice a l.length c := by
  obtain ⟨xs, h1, _⟩ := h
  exact h1.slice
def FitL (l : List Tok) : Prop := l.length ≤ 90 ∧ ∀ t ∈ l, FitT t ∧ (Lit.int .i64 t.kind).wf = true

theorem Out.low {F : Nat → Prop} {w w1 w2 : World} (h : Below w.heap.size w w1) (k : Out F w1 w2) (hF : ∀ b, F b → w.heap.size ≤ b) : Below w.heap.size w w2 :=
  ⟨k.os.trans h.os, k.tape.trans h.tape, k.output.trans h.output, Nat.le_trans h.size k.size, fun b hb => (k.block b (Nat.lt_of_lt_of_le hb h.size) (fun e => by have := hF b e; omega)).trans (h.block b hb)⟩

set_option maxHeartbeats 8000000 in
set_option maxRecDepth 100000 in
theorem bTree (S : Nat → Prop) (v : Value) (l : List Tok) (w : World) (hS : ∀ b, S b → b < w.heap.size) (hr : TokR S w v l) (hf : FitL l) :
    Calls Try.prog 14 #[v] w (FreshPost (M7.tree l) w) := by
  obtain ⟨a, cap, rfl⟩ := hr.slice
  obtain ⟨hl, hft⟩ := hf
  have hN := Lib.hid (fun W => bNew W)
  replace hft := Lib.hid hft
  obtain ⟨wo, rfl⟩ : ∃ wo : World, wo = w := ⟨_, rfl⟩
  go_enter Try.func14, Try.ntmps14
  go_wp2_with fail
  refine (hN.out _).mono ?_
  rintro e w1 ⟨g, mb, rfl, hB1, hb1⟩
  have h0 : Hid (∃ F, BS F w1 g mb (M7.run (l.take 0)) 0 ∧ (∀ b, F b → wo.heap.size ≤ b)) := ⟨_, hB1, fun b hb => hb.1⟩
  clear hB1
  go_wp2_with fail
  go_loopw [9] (fun u9 wr => ∃ i : Nat, i ≤ l.length ∧ u9 = .int .i64 (i : Int) ∧ Hid (∃ F, BS F wr g mb (M7.run (l.take i)) i ∧ (∀ b, F b → wo.heap.size ≤ b)) ∧ Below wo.heap.size wo wr) (fun u9 _ => l.length - (intOf u9).toNat)
  case atStart => exact ⟨0, by omega, rfl, h0, hb1⟩
  case round =>
    obtain ⟨i, hi, rfl, hBS, hb⟩ := hrel
    have hz := hb.size
    clear h0
    by_cases hlt : i < l.length
    · obtain ⟨F, hBS, hF⟩ := hBS.out
      obtain ⟨b, off, va, rfl, hSb, hat, c0, c1, c2, c3⟩ := (hr.keep (w' := wr) (fun b hb' => hb.block b (hS b hb'))).at_ i hlt
      have hbl := hS b hSb
      obtain ⟨hfi, hkw⟩ := hft.out _ (List.getElem_mem hlt)
      have htk : M7.run (l.take (i + 1)) = M7.step (M7.run (l.take i)) l[i] := by
        rw [List.take_succ_eq_append_getElem hlt, M7.run_snoc]
      generalize l[i] = tk at *
      obtain ⟨av, cv, rfl⟩ := hat.slice
      have hb2 : Below wr.heap.size wr (wr.alloc (.cells #[.int .i64 tk.kind, .string tk.name, .slice av tk.attrs.length cv, .string tk.text] 33)) := (Below.refl _ wr).alloc (Nat.le_refl _) _
      have bX := Box.new wr 33 [.int .i64 tk.kind, .string tk.name, .slice av tk.attrs.length cv, .string tk.text]
      change Box (wr.alloc (.cells #[.int .i64 tk.kind, .string tk.name, .slice av tk.attrs.length cv, .string tk.text] 33)) _ _ _ at bX
      replace hBS := Lib.hid hBS
      replace hF := Lib.hid hF
      replace htk := Lib.hid htk
      replace hat := Lib.hid hat
      replace hkw := Lib.hid hkw
      replace bX := Lib.hid bX
      go_upto_region 5 with fail
      obtain ⟨w2, hw2⟩ : ∃ W, wr.alloc (.cells #[.int .i64 tk.kind, .string tk.name, .slice av tk.attrs.length cv, .string tk.text] 33) = W := ⟨_, rfl⟩
      rw [hw2] at hb2 bX ⊢
      have hzz := hb2.size
      have y0 := bX.out.cell (i := 0) rfl
      have y1 := bX.out.cell (i := 1) rfl
      have y2 := bX.out.cell (i := 2) rfl
      have y3 := bX.out.cell (i := 3) rfl
      have hP := Lib.hid (bPut (S := S) (tk := tk) (va := .slice av tk.attrs.length cv) (hBS.out.below hb2) (by omega) hfi hkw.out (fun b h => ⟨by have := hS b h; omega, fun e => by have := hF.out b e; have := hS b h; omega⟩) (hat.out.keep (fun b h => hb2.block b (by have := hS b h; omega))))
      clear hw2 c0 c1 c2 c3
      go_wp2_with fail
      refine hP.out.mono ?_
      rintro e w3 ⟨rfl, hB3, hO3⟩
      have hb3 : Below wo.heap.size wo w3 := Out.low (bt hb hb2) hO3 hF.out
      have hn : Hid (∃ F, BS F w3 g mb (M7.run (l.take (i + 1))) (i + 1) ∧ (∀ b, F b → wo.heap.size ≤ b)) := ⟨grw F w2 w3, by rw [htk.out]; exact hB3, fun b hb' => Or.elim hb' (hF.out b) (fun e => by omega)⟩
      clear hB3 hO3 y0 y1 y2 y3
      go_wp2_with fail
      go_roundw
      case rel => exact ⟨i + 1, by omega, by go_num, hn, hb3⟩
      case measure => exact meas_nat hlt
    · obtain rfl : i = l.length := by omega
      obtain ⟨F, hBS2, hF⟩ := hBS.out
      rw [List.take_length] at hBS2
      have hNd := Lib.hid (bNodes hBS2 (by omega))
      clear hBS2 hBS
      replace hF := Lib.hid hF
      go_wp2_with fail
      refine hNd.out.mono ?_
      rintro e w3 ⟨v3, rfl, hf3, -, hO3⟩
      have hb3 : Below wo.heap.size wo w3 := Out.low hb hO3 hF.out
      have hres : Hid (Fresh w3 wo.heap.size v3 (M7.tree l)) := hf3.base hz
      clear hf3 hO3
      go_wp2_with fail
      go_ret
      exact ⟨v3, rfl, hres.out, hb3⟩
end Go.Proofs.Yteefodibpjgicaa

/- Law 7: the document's example; a builder that the call has made. -/
namespace Go.Proofs.Yteefodibpjgicaa
open Go.RowKit Go.Maps

/-- A builder that was made since w. -/
def LB (w wr : World) (g mb : Nat) (s : M7.St) (q : Nat) : Prop := (∃ F, BS F wr g mb s q ∧ (∀ b, F b → w.heap.size ≤ b)) ∧ Below w.heap.size w wr
theorem LB.new (w : World) : Calls Try.prog 6 #[] w fun e w' => ∃ g mb, e = .returned (.pointer (some ⟨g, 0, none⟩)) ∧ LB w w' g mb ⟨[], 0⟩ 0 :=
  (bNew w).mono fun _ _ ⟨g, mb, h1, h2, h3⟩ => ⟨g, mb, h1, ⟨_, h2, fun _ h => h.1⟩, h3⟩
theorem LB.put {w wr : World} {g mb q : Nat} {s : M7.St} {S : Nat → Prop} {tk : Tok} {va : Value} (h : LB w wr g mb s q) (hq : q ≤ 100) (ht : FitT tk) (hkw : (Lit.int .i64 tk.kind).wf = true) (hS : ∀ b, S b → b < w.heap.size)
    (hat : Row S wr 2 va tk.attrs.length (cellsA tk.attrs)) :
    Calls Try.prog 7 #[.pointer (some ⟨g, 0, none⟩), tk.val va] wr fun e w' => e = .returned (.tuple #[]) ∧ LB w w' g mb (M7.step s tk) (q + 1) := by
  obtain ⟨⟨F, hB, hF⟩, hb⟩ := h
  have hz := hb.size
  refine (bPut (S := S) hB hq ht hkw (fun b h => ⟨by have := hS b h; omega, fun e => by have := hF b e; have := hS b h; omega⟩) hat).mono ?_
  rintro e w' ⟨rfl, h1, h2⟩
  exact ⟨rfl, ⟨_, h1, fun b hb' => Or.elim hb' (hF b) (fun e => by omega)⟩, Out.low hb h2 hF⟩
theorem LB.nodes {w wr : World} {g mb q : Nat} {s : M7.St} (h : LB w wr g mb s q) (hq : q ≤ 100) :
    Calls Try.prog 12 #[.pointer (some ⟨g, 0, none⟩)] wr fun e W' => ∃ v, e = .returned v ∧ Fresh W' wr.heap.size v s.L ∧ LB w W' g mb s q := by
  obtain ⟨⟨F, hB, hF⟩, hb⟩ := h
  refine (bNodes hB hq).mono ?_
  rintro e w' ⟨v, rfl, h1, h2, h3⟩
  exact ⟨v, rfl, h1, ⟨F, h2, hF⟩, Out.low hb h3 hF⟩
theorem LB.below {w wr w' : World} {g mb q : Nat} {s : M7.St} (h : LB w wr g mb s q) (hb : Below wr.heap.size wr w') : LB w w' g mb s q := by
  obtain ⟨⟨F, hB, hF⟩, hb1⟩ := h
  exact ⟨⟨F, hB.below hb, hF⟩, bt hb1 hb⟩
theorem LB.open_ {w wr : World} {g mb q : Nat} {s : M7.St} (h : LB w wr g mb s q) (hq : q ≤ 100) :
    Calls Try.prog 9 #[.pointer (some ⟨g, 0, none⟩)] wr fun e W' => NewTxs (M7.openN s.d s.L) wr e W' ∧ LB w W' g mb s q := by
  obtain ⟨⟨F, hB, hF⟩, hb⟩ := h
  refine (bOpen hB hq).mono ?_
  rintro e w' h1
  obtain ⟨v, h2, h3, h4⟩ := h1
  exact ⟨⟨v, h2, h3, h4⟩, ⟨F, hB.below h4, hF⟩, bt hb h4⟩

namespace M7
def tkP : Tok := ⟨1, ⟨#[112]⟩, [], ⟨#[]⟩⟩
def tkX : Tok := ⟨3, ⟨#[]⟩, [], ⟨#[120]⟩⟩
def tkD : Tok := ⟨1, ⟨#[100, 105, 118]⟩, [], ⟨#[]⟩⟩
theorem lives_L : (step (step (step ⟨[], 0⟩ tkP) tkX) tkD) = ⟨[.mk 1 ⟨#[112]⟩ [] ⟨#[]⟩ [.mk 2 ⟨#[]⟩ [] ⟨#[120]⟩ []], .mk 1 ⟨#[100, 105, 118]⟩ [] ⟨#[]⟩ []], 1⟩ := by kernel_rfl
theorem lives_O : openN 1 [.mk 1 ⟨#[112]⟩ [] ⟨#[]⟩ [.mk 2 ⟨#[]⟩ [] ⟨#[120]⟩ []], .mk 1 ⟨#[100, 105, 118]⟩ [] ⟨#[]⟩ []] = [⟨#[100, 105, 118]⟩] := by kernel_rfl
end M7

set_option maxHeartbeats 4000000 in
set_option maxRecDepth 100000 in
theorem lives07 (w : World) : Calls Try.prog 13 #[] w fun e w' => e = .returned (.bool true) ∧ Below w.heap.size w w' := by
  have fit : ∀ t, t = M7.tkP ∨ t = M7.tkX ∨ t = M7.tkD → FitT t ∧ (Lit.int .i64 t.kind).wf = true := by
    rintro t (rfl | rfl | rfl) <;> exact ⟨⟨by decide, by decide, by decide⟩, by decide⟩
  obtain ⟨fp1, fp2⟩ := fit _ (.inl rfl)
  obtain ⟨fx1, fx2⟩ := fit _ (.inr (.inl rfl))
  obtain ⟨fd1, fd2⟩ := fit _ (.inr (.inr rfl))
  have hN := Lib.hid (LB.new w)
  have hPP := Lib.hid (fun wr g mb (h : LB w wr g mb ⟨[], 0⟩ 0) => LB.put (S := fun _ => False) (tk := M7.tkP) (va := .slice none 0 0) h (by omega) fp1 fp2 (fun _ h => h.elim) (Row.nil _ _ _))
  have hPX := Lib.hid (fun wr g mb s (h : LB w wr g mb s 1) => LB.put (S := fun _ => False) (tk := M7.tkX) (va := .slice none 0 0) h (by omega) fx1 fx2 (fun _ h => h.elim) (Row.nil _ _ _))
  have hPD := Lib.hid (fun wr g mb s (h : LB w wr g mb s 2) => LB.put (S := fun _ => False) (tk := M7.tkD) (va := .slice none 0 0) h (by omega) fd1 fd2 (fun _ h => h.elim) (Row.nil _ _ _))
  clear fit fp1 fp2 fx1 fx2 fd1 fd2
  obtain ⟨wo, rfl⟩ : ∃ wo : World, wo = w := ⟨_, rfl⟩
  go_enter Try.func13, Try.ntmps13
  go_wp2_with fail
  refine hN.out.mono ?_
  rintro e w1 ⟨g, mb, rfl, h1⟩
  replace h1 := Lib.hid h1
  go_wp2_with fail
  refine (hPP.out _ _ _ h1.out).mono ?_
  rintro e w2 ⟨rfl, h2⟩
  replace h2 := Lib.hid h2
  go_wp2_with fail
  refine (hPX.out _ _ _ _ h2.out).mono ?_
  rintro e w3 ⟨rfl, h3⟩
  replace h3 := Lib.hid h3
  go_wp2_with fail
  refine (hPD.out _ _ _ _ h3.out).mono ?_
  rintro e w4 ⟨rfl, h4⟩
  rw [M7.lives_L] at h4
  replace h4 := Lib.hid h4
  go_wp2_with fail
  refine (LB.nodes h4.out (by omega)).mono ?_
  rintro e w5 ⟨v5, rfl, hf5, h5⟩
  replace h5 := Lib.hid h5
  go_wp2_with fail
  refine (LB.open_ h5.out (by omega)).mono ?_
  rintro e w6 ⟨⟨v6, rfl, hO, hb6⟩, h6⟩
  rw [M7.lives_O] at hO
  have hR := hf5.rep.below (fun b h => h.2) hb6
  obtain ⟨a5, c5, rfl⟩ := hR.slice
  obtain ⟨b5, o5, va5, vk5, rfl, -, y0, y1, y2, y3, y4, hrv⟩ := hR.at_ 0 (by simp)
  obtain ⟨b5', o5', va5', vk5', e5, -, z0, z1, z2, z3, z4, -⟩ := hR.at_ 1 (by simp)
  cases e5
  simp only [Nat.zero_mul, Nat.one_mul, Nat.add_zero] at y1 y4 z1
  obtain ⟨ak, ck, rfl⟩ := hrv.2.slice
  obtain ⟨-, a6, c6, rfl, -, hc6, -, hx6⟩ := hO
  obtain ⟨b6, o6, rfl, -, hcl⟩ := hx6 (by decide)
  have x0 := hcl 0 _ rfl
  simp only [Nat.add_zero] at x0
  replace y1 : w6.cell? ⟨b5, o5 + 1, none⟩ = some (.string ⟨#[112]⟩) := y1
  replace y4 : w6.cell? ⟨b5, o5 + 4, none⟩ = some (.slice ak 1 ck) := y4
  replace z1 : w6.cell? ⟨b5, o5 + 5 + 1, none⟩ = some (.string ⟨#[100, 105, 118]⟩) := z1
  have hbw := h6.2
  clear hR hrv hcl hx6 hf5 h6 hb6 y0 y2 y3 z0 z2 z3 z4
  go_wp2_with fail
  go_ret
  exact ⟨rfl, hbw⟩
end Go.Proofs.Yteefodibpjgicaa

/- Reference 7: the tokens' cut. -/
namespace Go.Proofs.Yteefodibpjgicaa
open Go.RowKit Go.Maps Go.ChangeShapes Go.WideShapes

namespace M7
def fewT (t : Tok) : Tok := ⟨t.kind, M3.few t.name, (t.attrs.take 5).map M3.fewA, M3.few t.text⟩
def cutT (l : List Tok) : List Tok := (l.take 40).map fewT
def ndT (t : Tok) : Nd := .mk 0 t.name t.attrs t.text []
theorem few_one (t : Tok) : fewN [ndT t] = [.mk 0 (fewT t).name (fewT t).attrs (fewT t).text []] := by
  unfold fewN ndT
  rw [M3.cut_cons, M3.cut_nil]
  simp only [Nd.kids]
  rw [M3.cut_nil]
  rfl
end M7

theorem keep7 {f : Nat → Bool} {t : Nat → Value} {i : Nat} {v u : Value} (h : f 0 = false → t 21 = u) (hi : 21 ≠ i) : updF f i 0 = false → updT t i v 21 = u := by
  intro q
  rw [updT_ne _ _ hi]
  refine h ?_
  by_cases e : 0 = i
  · rw [← e, updF_self] at q; cases q
  · rwa [updF_ne _ e] at q

/-- All texts of tokens are shorter than any that there can be, and their kinds are numbers. -/
def SzT (l : List Tok) : Prop := ∀ t ∈ l, Sz1 (M7.ndT t) ∧ (Lit.int .i64 t.kind).wf = true

def CutT (l : List Tok) (w : World) (e : Ending) (w' : World) : Prop := ∃ v', e = .returned v' ∧ Toks w' w.heap.size v' (M7.cutT l) ∧ Below w.heap.size w w'

set_option maxHeartbeats 8000000 in
set_option maxRecDepth 100000 in
theorem ref07Cut (S : Nat → Prop) (v : Value) (l : List Tok) (w : World) (hS : ∀ b, S b → b < w.heap.size) (hr : TokR S w v l) (hsz : SzT l) :
    Calls Try.prog 5 #[v] w (CutT l w) := by
  obtain ⟨a, cap, rfl⟩ := hr.slice
  obtain ⟨wo, rfl⟩ : ∃ wo : World, wo = w := ⟨_, rfl⟩
  go_enter Try.func5, Try.ntmps5
  go_wp2_with fail
  go_loopw [3, 4] (fun u3 u4 wr => ∃ i : Nat, i ≤ 40 ∧ i ≤ l.length ∧ u4 = .int .i64 (i : Int) ∧ Toks wr wo.heap.size u3 (M7.cutT (l.take i)) ∧ Below wo.heap.size wo wr) (fun _ u4 _ => 40 - (intOf u4).toNat)
  case atStart => exact ⟨0, by omega, by omega, rfl, by rw [List.take_zero]; exact Toks.nil _ _, Below.refl _ _⟩
  case round =>
    obtain ⟨i, h40, hi, rfl, hT, hb⟩ := hrel
    have hz := hb.size
    by_cases hlt : i < l.length ∧ i < 40
    · obtain ⟨hlt, hl40⟩ := hlt
      obtain ⟨b, off, va, rfl, hSb, hat, c0, c1, c2, c3⟩ := (hr.keep (w' := wr) (fun b hb' => hb.block b (hS b hb'))).at_ i hlt
      have hbl := hS b hSb
      obtain ⟨hs1, hkw⟩ := hsz _ (List.getElem_mem hlt)
      have htk : M7.cutT (l.take (i + 1)) = M7.cutT (l.take i) ++ [M7.fewT l[i]] := by
        unfold M7.cutT
        rw [List.take_take, List.take_take, Nat.min_eq_right (by omega), Nat.min_eq_right (by omega), List.take_succ_eq_append_getElem hlt, List.map_append]
        rfl
      have hlc : (M7.cutT (l.take i)).length = i := by unfold M7.cutT; simp; omega
      generalize l[i] = tk at *
      generalize hA : M7.cutT (l.take i) = A at *
      obtain ⟨av, cv, rfl⟩ := hat.slice
      replace hT := Lib.hid hT
      replace htk := Lib.hid htk
      replace hA := Lib.hid hA
      replace hat := Lib.hid hat
      replace hsz := Lib.hid hsz
      go_upto_region 5 with fail
      have hb1 : Below wr.heap.size wr (wr.alloc (.cells #[.int .i64 0, .string ⟨#[]⟩, .slice none 0 0, .string ⟨#[]⟩, .slice none 0 0] 44)) := (Below.refl _ wr).alloc (Nat.le_refl _) _
      have bX := Box.new wr 44 [.int .i64 0, .string ⟨#[]⟩, .slice none 0 0, .string ⟨#[]⟩, .slice none 0 0]
      change Box (wr.alloc (.cells #[.int .i64 0, .string ⟨#[]⟩, .slice none 0 0, .string ⟨#[]⟩, .slice none 0 0] 44)) _ _ _ at bX
      have hz0 : (wr.alloc (.cells #[.int .i64 0, .string ⟨#[]⟩, .slice none 0 0, .string ⟨#[]⟩, .slice none 0 0] 44)).heap.size = wr.heap.size + 1 := by simp
      have d0 := (hb1.cell (p := ⟨b, off + i * 4, none⟩) (by show b < _; omega)).trans c0
      have d1 := (hb1.cell (p := ⟨b, off + i * 4 + 1, none⟩) (by show b < _; omega)).trans c1
      have d2 := (hb1.cell (p := ⟨b, off + i * 4 + 2, none⟩) (by show b < _; omega)).trans c2
      have d3 := (hb1.cell (p := ⟨b, off + i * 4 + 3, none⟩) (by show b < _; omega)).trans c3
      go_region
      have hb2 : Below wr.heap.size wr (wr.alloc (.cells #[.int .i64 0, .string tk.name, .slice av tk.attrs.length cv, .string tk.text, .slice none 0 0] 44)).drew := ((Below.refl _ wr).alloc (Nat.le_refl _) _).drew
      have hz2 : (wr.alloc (.cells #[.int .i64 0, .string tk.name, .slice av tk.attrs.length cv, .string tk.text, .slice none 0 0] 44)).drew.heap.size = wr.heap.size + 1 := by simp
      have bX2 := Box.new wr 44 [.int .i64 0, .string tk.name, .slice av tk.attrs.length cv, .string tk.text, .slice none 0 0]
      change Box (wr.alloc (.cells #[.int .i64 0, .string tk.name, .slice av tk.attrs.length cv, .string tk.text, .slice none 0 0] 44)).drew _ _ _ at bX2
      obtain ⟨w2, hw2⟩ : ∃ W, (wr.alloc (.cells #[.int .i64 0, .string tk.name, .slice av tk.attrs.length cv, .string tk.text, .slice none 0 0] 44)).drew = W := ⟨_, rfl⟩
      rw [hw2] at hb2 hz2 bX2 ⊢
      clear hw2 hb1 bX hz0 d0 d1 d2 d3 c1 c2 c3
      replace c0 := Lib.hid c0
      have x0 := bX2.cell (i := 0) rfl
      have x1 := bX2.cell (i := 1) rfl
      have x2 := bX2.cell (i := 2) rfl
      have x3 := bX2.cell (i := 3) rfl
      have x4 := bX2.cell (i := 4) rfl
      have hF := Lib.hid (fun S v W h1 h2 => ref03Few S v [M7.ndT tk] W h1 h2 (szN_cons.2 ⟨hs1, by rw [show (M7.ndT tk).kids = [] from rfl, SzN]; trivial, by rw [SzN]; trivial⟩))
      clear hs1
      have hbN : Below w2.heap.size w2 (w2.alloc (.cells #[.int .i64 0, .string tk.name, .slice av tk.attrs.length cv, .string tk.text, .slice none 0 0] 44)) := (Below.refl _ w2).alloc (Nat.le_refl _) _
      have hzN : (w2.alloc (.cells #[.int .i64 0, .string tk.name, .slice av tk.attrs.length cv, .string tk.text, .slice none 0 0] 44)).heap.size = w2.heap.size + 1 := by simp
      have bN := Box.new w2 44 [.int .i64 0, .string tk.name, .slice av tk.attrs.length cv, .string tk.text, .slice none 0 0]
      change Box (w2.alloc (.cells #[.int .i64 0, .string tk.name, .slice av tk.attrs.length cv, .string tk.text, .slice none 0 0] 44)) _ _ _ at bN
      have hRN : RepN (fun b => S b ∨ b = wr.heap.size + 1) (w2.alloc (.cells #[.int .i64 0, .string tk.name, .slice av tk.attrs.length cv, .string tk.text, .slice none 0 0] 44)) (.slice (some ⟨wr.heap.size + 1, 0, none⟩) 1 1) [M7.ndT tk] := by
        refine ⟨(M7.ndT tk).cells (.slice av tk.attrs.length cv) (.slice none 0 0), ⟨rfl, some ⟨wr.heap.size + 1, 0, none⟩, 1, rfl, Nat.le_refl _, by omega, (fun h => by cases h), fun _ => ⟨wr.heap.size + 1, 0, rfl, Or.inr rfl, fun j u hu => ?_⟩⟩, RepC.single ⟨?_, RepN.nil _ _⟩⟩
        · rw [Nat.zero_add, ← hz2]; exact bN.cell (i := j) hu
        · exact (hat.out.keep (fun b h => (hbN.block b (by have := hS b h; omega)).trans (hb2.block b (by have := hS b h; omega)))).mono (fun b h => Or.inl h)
      replace hRN := Lib.hid hRN
      replace hbN := Lib.hid hbN
      replace hzN := Lib.hid hzN
      clear bN
      go_wp2_with fail
      refine (hF.out _ _ _ (fun b h => by have h1 := hzN.out; rcases h with h | h <;> first | omega | (have := hS b h; omega)) hRN.out).mono ?_
      rintro e w3 ⟨v3, rfl, hM, hb3⟩
      rw [M7.few_one] at hM
      obtain ⟨a9, c9, rfl⟩ := hM.rep.slice
      obtain ⟨b9, o9, va9, vk9, rfl, ⟨hb9, hb9'⟩, y0, y1, y2, y3, y4, hrv⟩ := hM.rep.at_ 0 (by simp)
      simp only [Nat.zero_mul, Nat.add_zero] at y0 y1 y2 y3 y4
      replace y1 : w3.cell? ⟨b9, o9 + 1, none⟩ = some (.string (M7.fewT tk).name) := y1
      replace y2 : w3.cell? ⟨b9, o9 + 2, none⟩ = some va9 := y2
      replace y3 : w3.cell? ⟨b9, o9 + 3, none⟩ = some (.string (M7.fewT tk).text) := y3
      have hrow := hrv.1
      change Row _ w3 2 va9 (M7.fewT tk).attrs.length (cellsA (M7.fewT tk).attrs) at hrow
      have hz9 := hzN.out
      have hb03 : Below wr.heap.size wr w3 := bt hb2 (bt hbN.out hb3)
      have hz03 := hb03.size
      have hbA : Below wo.heap.size wo w3 := bt hb hb03
      have c0' := (hb03.cell (p := ⟨b, off + i * 4, none⟩) (by show b < _; omega)).trans c0.out
      have hug0 := Lib.hid (fun b (hb : u3.ownBlock = some b) => (hT.out.lt hb).2)
      obtain ⟨xs, hown, hrep⟩ := hT.out.below hb03
      obtain ⟨j0, hj0, hj00, hj01, hj02⟩ := info_parts infoT5
      replace hrow := Lib.hid hrow
      replace hrep := Lib.hid hrep
      replace hb03 := Lib.hid hb03
      replace hbA := Lib.hid hbA
      replace hb3 := Lib.hid hb3
      have hkd : (M7.fewT tk).kind = tk.kind := rfl
      generalize M7.fewT tk = tf at *
      obtain ⟨av9, cv9, rfl⟩ := hrow.slice
      rw [← hkd] at c0'
      replace hkd := Lib.hid hkd
      clear hM hrv y0 y4 hT hF hRN x0 x1 x2 x3 x4 bX2 hb2
      go_upto_region 7 with fail
      have hone : ∀ u ∈ ([.int .i64 tf.kind, .string tf.name, (.slice av9 tf.attrs.length cv9), .string tf.text] : List Value), u.oneCell' = true := by
        simp [Value.oneCell']
      obtain ⟨gg, c2, w6, hrunA, hown6, hgrow, hat6, hlt6⟩ := run_append_lies (P := Try.prog) (w := (w3.alloc (.cells #[.int .i64 tf.kind, .string tf.name, (.slice av9 tf.attrs.length cv9), .string tf.text] 33)).drew) 22 22 wo.heap.size 33 j0 _ 4 64 Try.underlying22 hj0 hj00 hj01 hj02 rfl (by omega) u3 A.length xs ((hown.alloc _).drew) ⟨w3.heap.size, 0, none⟩ 1 1 [.int .i64 tf.kind, .string tf.name, (.slice av9 tf.attrs.length cv9), .string tf.text] (by rfl) (World.news_of_block (cs := #[.int .i64 tf.kind, .string tf.name, (.slice av9 tf.attrs.length cv9), .string tf.text]) (t := 33) (fr := (0, 0)) (heap_alloc_new w3 _)) hone (by omega) (by unfold maxLen; omega) (by omega) (by simp; omega) (w3.heap.size + 1) (by simp)
      replace hlc := Lib.hid hlc
      refine wp_region_knownC (n := 22) ([some (u3), some (Value.slice (some ⟨b, off, none⟩) l.length cap), some (Value.int IntKind.i64 (i : Int)), some (.pointer (some ⟨b, off + i * 4, none⟩)), some (.pointer (some ⟨b, off + i * 4, none⟩)), some (.int .i64 tf.kind), some (Value.slice (some ⟨b9, o9, none⟩) 1 c9), some (.pointer (some ⟨b9, o9, none⟩)), some (.pointer (some ⟨b9, o9 + 1, none⟩)), some (.string tf.name), some (Value.slice (some ⟨b9, o9, none⟩) 1 c9), some (.pointer (some ⟨b9, o9, none⟩)), some (.pointer (some ⟨b9, o9 + 3, none⟩)), some (.string tf.text), some (Value.slice (some ⟨b9, o9, none⟩) 1 c9), some (.pointer (some ⟨b9, o9, none⟩)), some (.pointer (some ⟨b9, o9 + 2, none⟩)), some ((.slice av9 tf.attrs.length cv9)), some (.agg #[.int .i64 tf.kind, .string tf.name, (.slice av9 tf.attrs.length cv9), .string tf.text]), some (.slice (some ⟨w3.heap.size, 0, none⟩) 1 1), some (.slice (some ⟨gg, 0, none⟩) (A.length + 1) c2), some (.slice (some ⟨gg, 0, none⟩) (A.length + 1) c2)] : List (Option Value)) (fun t => ⟨#[Value.slice (some ⟨b, off, none⟩) l.length cap, undef, Value.slice none 0 0, t 21, Value.int IntKind.i64 (i : Int), Value.pointer (some ⟨wr.heap.size, 0, none⟩), Value.slice (some ⟨b9, o9, none⟩) 1 c9, Value.int IntKind.i64 (i : Int), Value.slice (some ⟨b, off, none⟩) l.length cap, Value.int IntKind.i64 (l.length : Int), Value.bool true, Value.bool true, Value.int IntKind.i64 (i : Int), Value.bool true, Value.bool true, u15, u16, Value.slice (some ⟨b, off, none⟩) l.length cap, Value.int IntKind.i64 (i : Int), Value.pointer (some ⟨b, off + i * 4, none⟩), Value.pointer (some ⟨b, off + i * 4 + 1, none⟩), Value.string tk.name, Value.slice (some ⟨b, off, none⟩) l.length cap, Value.int IntKind.i64 (i : Int), Value.pointer (some ⟨b, off + i * 4, none⟩), Value.pointer (some ⟨b, off + i * 4 + 3, none⟩), Value.string tk.text, Value.slice (some ⟨b, off, none⟩) l.length cap, Value.int IntKind.i64 (i : Int), Value.pointer (some ⟨b, off + i * 4, none⟩), Value.pointer (some ⟨b, off + i * 4 + 2, none⟩), Value.slice av tk.attrs.length cv, Value.agg #[Value.int IntKind.i64 0, Value.string tk.name, Value.slice av tk.attrs.length cv, Value.string tk.text, Value.slice none 0 0], Value.agg #[Value.int IntKind.i64 0, Value.string tk.name, Value.slice av tk.attrs.length cv, Value.string tk.text, Value.slice none 0 0], Value.slice (some ⟨wr.heap.size + 1, 0, none⟩) 1 1, Value.slice (some ⟨b9, o9, none⟩) 1 c9, t 0, t 1, t 2, t 3, t 4, t 5, t 6, t 7, t 8, t 9, t 10, t 11, t 12, t 13, t 14, t 15, t 16, t 17, t 18, t 19, t 20, undef], []⟩) (fun f t W => PuI 19 20 21 w3.drew (w3.alloc (.cells #[.int .i64 tf.kind, .string tf.name, (.slice av9 tf.attrs.length cv9), .string tf.text] 33)).drew w6 w6 f W ∧ (f 0 = false → t 21 = u3)) (fun j => match j with | 0 => u36 | 1 => u37 | 2 => u38 | 3 => u39 | 4 => u40 | 5 => u41 | 6 => u42 | 7 => u43 | 8 => u44 | 9 => u45 | 10 => u46 | 11 => u47 | 12 => u48 | 13 => u49 | 14 => u50 | 15 => u51 | 16 => u52 | 17 => u53 | 18 => u54 | 19 => u55 | 20 => u56 | 21 => u3 | _ => undef) (by kernel_rfl) (by rfl) (by rfl) (by kernel_rfl) rfl ?i0 ?step ?fin
      case i0 =>
        exact ⟨PuI.start 22 (by decide) (by decide) (by decide), fun _ => rfl⟩
      case step =>
        intro j0 hj0 f t W hfi hwt hcl hk2 hI
        have h18 : f 19 = true → f 18 = true := hcl 19 18 (by kernel_rfl)
        have ha := hcl 18 5 (by kernel_rfl)
        have hb' := hcl 18 9 (by kernel_rfl)
        have hc := hcl 18 13 (by kernel_rfl)
        have hd := hcl 18 17 (by kernel_rfl)
        have h2019 : f 20 = true → f 19 = true := hcl 20 19 (by kernel_rfl)
        have h2120 : f 21 = true → f 20 = true := hcl 21 20 (by kernel_rfl)
        clear hcl
        have hnot : j0 = 5 ∨ j0 = 9 ∨ j0 = 13 ∨ j0 = 17 → f 19 = false := fun h => Bool.eq_false_iff.2 (fun q => by
          have q := h18 q
          have q1 := ha q
          have q2 := hb' q
          have q3 := hc q
          have q4 := hd q
          rcases h with rfl | rfl | rfl | rfl <;> simp_all)
        obtain rfl | rfl | rfl | rfl | rfl | rfl | rfl | rfl | rfl | rfl | rfl | rfl | rfl | rfl | rfl | rfl | rfl | rfl | rfl | rfl | rfl | rfl : j0 = 0 ∨ j0 = 1 ∨ j0 = 2 ∨ j0 = 3 ∨ j0 = 4 ∨ j0 = 5 ∨ j0 = 6 ∨ j0 = 7 ∨ j0 = 8 ∨ j0 = 9 ∨ j0 = 10 ∨ j0 = 11 ∨ j0 = 12 ∨ j0 = 13 ∨ j0 = 14 ∨ j0 = 15 ∨ j0 = 16 ∨ j0 = 17 ∨ j0 = 18 ∨ j0 = 19 ∨ j0 = 20 ∨ j0 = 21 := by omega
        · -- operation 0
          have e21 : t 21 = u3 := hI.2 hfi
          replace hk2 := Lib.hid hk2
          replace hI := Lib.hid hI
          clear hwt
          refine wpOp_step rfl (fun K hK => ?_)
          go_simp
          exact hK _ _ ⟨_, by simp [updT, e21], hk2.out.at_ rfl, ⟨hI.out.1.same _ (by decide) (by decide) (by decide), keep7 hI.out.2 (by decide)⟩⟩
        · -- operation 1
          try (have hW := hI.1.1 (hnot (by decide)); subst hW)
          replace hI := Lib.hid hI
          replace hk2 := Lib.hid hk2
          clear hwt
          refine wpOp_step rfl (fun K hK => ?_)
          go_simp
          exact hK _ _ ⟨_, by simp [updT], hk2.out.at_ rfl, ⟨hI.out.1.same _ (by decide) (by decide) (by decide), keep7 hI.out.2 (by decide)⟩⟩
        · -- operation 2
          try (have hW := hI.1.1 (hnot (by decide)); subst hW)
          replace hI := Lib.hid hI
          replace hk2 := Lib.hid hk2
          clear hwt
          refine wpOp_step rfl (fun K hK => ?_)
          go_simp
          exact hK _ _ ⟨_, by simp [updT], hk2.out.at_ rfl, ⟨hI.out.1.same _ (by decide) (by decide) (by decide), keep7 hI.out.2 (by decide)⟩⟩
        · -- operation 3
          have e1 : t 1 = Value.slice (some ⟨b, off, none⟩) l.length cap := hk2 1 _ (hwt 1 (by kernel_rfl)) rfl
          have e2 : t 2 = Value.int IntKind.i64 (i : Int) := hk2 2 _ (hwt 2 (by kernel_rfl)) rfl
          try (have hW := hI.1.1 (hnot (by decide)); subst hW)
          replace hI := Lib.hid hI
          replace hk2 := Lib.hid hk2
          clear hwt
          refine wpOp_step rfl (fun K hK => ?_)
          go_simp
          exact hK _ _ ⟨_, by simp [updT, e1, e2], hk2.out.at_ rfl, ⟨hI.out.1.same _ (by decide) (by decide) (by decide), keep7 hI.out.2 (by decide)⟩⟩
        · -- operation 4
          have e3 : t 3 = .pointer (some ⟨b, off + i * 4, none⟩) := hk2 3 _ (hwt 3 (by kernel_rfl)) rfl
          try (have hW := hI.1.1 (hnot (by decide)); subst hW)
          replace hI := Lib.hid hI
          replace hk2 := Lib.hid hk2
          clear hwt
          refine wpOp_step rfl (fun K hK => ?_)
          go_simp
          exact hK _ _ ⟨_, by simp [updT, e3], hk2.out.at_ rfl, ⟨hI.out.1.same _ (by decide) (by decide) (by decide), keep7 hI.out.2 (by decide)⟩⟩
        · -- operation 5
          have e4 : t 4 = .pointer (some ⟨b, off + i * 4, none⟩) := hk2 4 _ (hwt 4 (by kernel_rfl)) rfl
          try (have hW := hI.1.1 (hnot (by decide)); subst hW)
          replace hI := Lib.hid hI
          replace hk2 := Lib.hid hk2
          clear hwt
          refine wpOp_step rfl (fun K hK => ?_)
          go_simp
          exact hK _ _ ⟨_, by simp [updT, e4], hk2.out.at_ rfl, ⟨hI.out.1.same _ (by decide) (by decide) (by decide), keep7 hI.out.2 (by decide)⟩⟩
        · -- operation 6
          try (have hW := hI.1.1 (hnot (by decide)); subst hW)
          replace hI := Lib.hid hI
          replace hk2 := Lib.hid hk2
          clear hwt
          refine wpOp_step rfl (fun K hK => ?_)
          go_simp
          exact hK _ _ ⟨_, by simp [updT], hk2.out.at_ rfl, ⟨hI.out.1.same _ (by decide) (by decide) (by decide), keep7 hI.out.2 (by decide)⟩⟩
        · -- operation 7
          have e6 : t 6 = Value.slice (some ⟨b9, o9, none⟩) 1 c9 := hk2 6 _ (hwt 6 (by kernel_rfl)) rfl
          try (have hW := hI.1.1 (hnot (by decide)); subst hW)
          replace hI := Lib.hid hI
          replace hk2 := Lib.hid hk2
          clear hwt
          refine wpOp_step rfl (fun K hK => ?_)
          go_simp
          exact hK _ _ ⟨_, by simp [updT, e6], hk2.out.at_ rfl, ⟨hI.out.1.same _ (by decide) (by decide) (by decide), keep7 hI.out.2 (by decide)⟩⟩
        · -- operation 8
          have e7 : t 7 = .pointer (some ⟨b9, o9, none⟩) := hk2 7 _ (hwt 7 (by kernel_rfl)) rfl
          try (have hW := hI.1.1 (hnot (by decide)); subst hW)
          replace hI := Lib.hid hI
          replace hk2 := Lib.hid hk2
          clear hwt
          refine wpOp_step rfl (fun K hK => ?_)
          go_simp
          exact hK _ _ ⟨_, by simp [updT, e7], hk2.out.at_ rfl, ⟨hI.out.1.same _ (by decide) (by decide) (by decide), keep7 hI.out.2 (by decide)⟩⟩
        · -- operation 9
          have e8 : t 8 = .pointer (some ⟨b9, o9 + 1, none⟩) := hk2 8 _ (hwt 8 (by kernel_rfl)) rfl
          try (have hW := hI.1.1 (hnot (by decide)); subst hW)
          replace hI := Lib.hid hI
          replace hk2 := Lib.hid hk2
          clear hwt
          refine wpOp_step rfl (fun K hK => ?_)
          go_simp
          exact hK _ _ ⟨_, by simp [updT, e8], hk2.out.at_ rfl, ⟨hI.out.1.same _ (by decide) (by decide) (by decide), keep7 hI.out.2 (by decide)⟩⟩
        · -- operation 10
          try (have hW := hI.1.1 (hnot (by decide)); subst hW)
          replace hI := Lib.hid hI
          replace hk2 := Lib.hid hk2
          clear hwt
          refine wpOp_step rfl (fun K hK => ?_)
          go_simp
          exact hK _ _ ⟨_, by simp [updT], hk2.out.at_ rfl, ⟨hI.out.1.same _ (by decide) (by decide) (by decide), keep7 hI.out.2 (by decide)⟩⟩
        · -- operation 11
          have e10 : t 10 = Value.slice (some ⟨b9, o9, none⟩) 1 c9 := hk2 10 _ (hwt 10 (by kernel_rfl)) rfl
          try (have hW := hI.1.1 (hnot (by decide)); subst hW)
          replace hI := Lib.hid hI
          replace hk2 := Lib.hid hk2
          clear hwt
          refine wpOp_step rfl (fun K hK => ?_)
          go_simp
          exact hK _ _ ⟨_, by simp [updT, e10], hk2.out.at_ rfl, ⟨hI.out.1.same _ (by decide) (by decide) (by decide), keep7 hI.out.2 (by decide)⟩⟩
        · -- operation 12
          have e11 : t 11 = .pointer (some ⟨b9, o9, none⟩) := hk2 11 _ (hwt 11 (by kernel_rfl)) rfl
          try (have hW := hI.1.1 (hnot (by decide)); subst hW)
          replace hI := Lib.hid hI
          replace hk2 := Lib.hid hk2
          clear hwt
          refine wpOp_step rfl (fun K hK => ?_)
          go_simp
          exact hK _ _ ⟨_, by simp [updT, e11], hk2.out.at_ rfl, ⟨hI.out.1.same _ (by decide) (by decide) (by decide), keep7 hI.out.2 (by decide)⟩⟩
        · -- operation 13
          have e12 : t 12 = .pointer (some ⟨b9, o9 + 3, none⟩) := hk2 12 _ (hwt 12 (by kernel_rfl)) rfl
          try (have hW := hI.1.1 (hnot (by decide)); subst hW)
          replace hI := Lib.hid hI
          replace hk2 := Lib.hid hk2
          clear hwt
          refine wpOp_step rfl (fun K hK => ?_)
          go_simp
          exact hK _ _ ⟨_, by simp [updT, e12], hk2.out.at_ rfl, ⟨hI.out.1.same _ (by decide) (by decide) (by decide), keep7 hI.out.2 (by decide)⟩⟩
        · -- operation 14
          try (have hW := hI.1.1 (hnot (by decide)); subst hW)
          replace hI := Lib.hid hI
          replace hk2 := Lib.hid hk2
          clear hwt
          refine wpOp_step rfl (fun K hK => ?_)
          go_simp
          exact hK _ _ ⟨_, by simp [updT], hk2.out.at_ rfl, ⟨hI.out.1.same _ (by decide) (by decide) (by decide), keep7 hI.out.2 (by decide)⟩⟩
        · -- operation 15
          have e14 : t 14 = Value.slice (some ⟨b9, o9, none⟩) 1 c9 := hk2 14 _ (hwt 14 (by kernel_rfl)) rfl
          try (have hW := hI.1.1 (hnot (by decide)); subst hW)
          replace hI := Lib.hid hI
          replace hk2 := Lib.hid hk2
          clear hwt
          refine wpOp_step rfl (fun K hK => ?_)
          go_simp
          exact hK _ _ ⟨_, by simp [updT, e14], hk2.out.at_ rfl, ⟨hI.out.1.same _ (by decide) (by decide) (by decide), keep7 hI.out.2 (by decide)⟩⟩
        · -- operation 16
          have e15 : t 15 = .pointer (some ⟨b9, o9, none⟩) := hk2 15 _ (hwt 15 (by kernel_rfl)) rfl
          try (have hW := hI.1.1 (hnot (by decide)); subst hW)
          replace hI := Lib.hid hI
          replace hk2 := Lib.hid hk2
          clear hwt
          refine wpOp_step rfl (fun K hK => ?_)
          go_simp
          exact hK _ _ ⟨_, by simp [updT, e15], hk2.out.at_ rfl, ⟨hI.out.1.same _ (by decide) (by decide) (by decide), keep7 hI.out.2 (by decide)⟩⟩
        · -- operation 17
          have e16 : t 16 = .pointer (some ⟨b9, o9 + 2, none⟩) := hk2 16 _ (hwt 16 (by kernel_rfl)) rfl
          try (have hW := hI.1.1 (hnot (by decide)); subst hW)
          replace hI := Lib.hid hI
          replace hk2 := Lib.hid hk2
          clear hwt
          refine wpOp_step rfl (fun K hK => ?_)
          go_simp
          exact hK _ _ ⟨_, by simp [updT, e16], hk2.out.at_ rfl, ⟨hI.out.1.same _ (by decide) (by decide) (by decide), keep7 hI.out.2 (by decide)⟩⟩
        · -- operation 18
          have e5 : t 5 = .int .i64 tf.kind := hk2 5 _ (hwt 5 (by kernel_rfl)) rfl
          have e9 : t 9 = .string tf.name := hk2 9 _ (hwt 9 (by kernel_rfl)) rfl
          have e13 : t 13 = .string tf.text := hk2 13 _ (hwt 13 (by kernel_rfl)) rfl
          have e17 : t 17 = (.slice av9 tf.attrs.length cv9) := hk2 17 _ (hwt 17 (by kernel_rfl)) rfl
          try (have hW := hI.1.1 (hnot (by decide)); subst hW)
          replace hI := Lib.hid hI
          replace hk2 := Lib.hid hk2
          clear hwt
          refine wpOp_step rfl (fun K hK => ?_)
          go_simp
          exact hK _ _ ⟨_, by simp [updT, e5, e9, e13, e17], hk2.out.at_ rfl, ⟨hI.out.1.same _ (by decide) (by decide) (by decide), keep7 hI.out.2 (by decide)⟩⟩
        · -- operation 19
          have e18 : t 18 = .agg #[.int .i64 tf.kind, .string tf.name, (.slice av9 tf.attrs.length cv9), .string tf.text] := hk2 18 _ (hwt 18 (by kernel_rfl)) rfl
          have h20 : f 20 = false := Bool.eq_false_iff.2 (fun h => by rw [h2019 h] at hfi; cases hfi)
          have h21 : f 21 = false := Bool.eq_false_iff.2 (fun h => by rw [h2120 h] at h20; cases h20)
          have hW := hI.1.1 hfi
          subst hW
          replace hk2 := Lib.hid hk2
          replace hI := Lib.hid hI
          clear hwt
          refine wpOp_step rfl (fun K hK => ?_)
          go_simp
          exact hK _ _ ⟨_, by simp [updT, e18], hk2.out.at_ rfl, ⟨PuI.mk1 (by decide) (by decide) h20 h21, keep7 hI.out.2 (by decide)⟩⟩
        · -- operation 20
          have e0 : t 0 = u3 := hk2 0 _ (hwt 0 (by kernel_rfl)) rfl
          have e19 : t 19 = .slice (some ⟨w3.heap.size, 0, none⟩) 1 1 := hk2 19 _ (hwt 19 (by kernel_rfl)) rfl
          have h19 := hwt 19 (by kernel_rfl)
          have h21 : f 21 = false := Bool.eq_false_iff.2 (fun h => by rw [h2120 h] at hfi; cases hfi)
          have hW := hI.1.2.1 h19 hfi
          subst hW
          replace hk2 := Lib.hid hk2
          replace hI := Lib.hid hI
          clear hwt
          refine wpOp_step rfl (fun K hK => ?_)
          refine wp_append_run _ _ 22 rfl _ _ _ (by show t 0 = _; exact e0) (by show t 19 = _; exact e19) hrunA ?_
          exact hK _ _ ⟨_, by simp [updT, Act.put], hk2.out.at_ rfl, ⟨PuI.app (by decide) (by decide) h19 h21, keep7 hI.out.2 (by decide)⟩⟩
        · -- operation 21
          have e20 : t 20 = .slice (some ⟨gg, 0, none⟩) (A.length + 1) c2 := hk2 20 _ (hwt 20 (by kernel_rfl)) rfl
          have h20 := hwt 20 (by kernel_rfl)
          have h19 := h2019 h20
          have hW := hI.1.2.2.1 h20 hfi
          subst hW
          have f0 : f 0 = true := hwt 0 (by kernel_rfl)
          replace hk2 := Lib.hid hk2
          replace hI := Lib.hid hI
          clear hwt
          refine wpOp_step rfl (fun K hK => ?_)
          go_simp
          exact hK _ _ ⟨_, by simp [updT, e20], hk2.out.at_ rfl, ⟨PuI.put (by decide) (by decide) h19 h20, fun q => by rw [updF_ne _ (by decide), f0] at q; cases q⟩⟩
      case fin =>
        intro f t W hall hk2 hI
        have hW := hI.1.2.2.2 (hall 21 (by omega))
        subst hW
        have e21 := hk2 21 _ (hall 21 (by omega)) rfl
        clear hk2 hall hI

        dsimp only
        rw [e21]
        have hz4 := hgrow.size
        have hbB : Below w3.heap.size w3 (w3.alloc (.cells #[.int .i64 tf.kind, .string tf.name, (.slice av9 tf.attrs.length cv9), .string tf.text] 33)).drew := ((Below.refl _ w3).alloc (Nat.le_refl _) _).drew
        have hzB : (w3.alloc (.cells #[.int .i64 tf.kind, .string tf.name, (.slice av9 tf.attrs.length cv9), .string tf.text] 33)).drew.heap.size = w3.heap.size + 1 := by simp
        have hug := fun g hg => hown.lt g hg
        have hT6 : Hid (Toks W wo.heap.size (.slice (some ⟨gg, 0, none⟩) (A.length + 1) c2) (A ++ [tf])) := by
          refine Toks.snoc (t := tf) (va := .slice av9 tf.attrs.length cv9) (RepT.mono (fun b hb => ⟨hb.1, by omega, hb.2.2⟩) _ _ (RepT.keep (fun b hb => hbB.block b hb.2.1) _ _ hrep.out)) ?_ hgrow (by rcases hat6 with h | h <;> first | exact .inl h | (right; omega)) hown6
          refine ((hrow.out.keep (fun b hb => hbB.block b hb.2)).mono fun b hb => ⟨?_, ?_, fun e => ?_⟩)
          · have := hb.1; omega
          · have := hb.2; omega
          · have := hug0.out b e; have := hb.1; omega
        have hb6 : Below wo.heap.size wo W := (hbA.out.trans (hbB.mono hbA.out.size)).grown hgrow (by have := hbA.out.size; omega) (fun g hg => (hug g hg).1)
        have hT7 : Hid (Toks W wo.heap.size (.slice (some ⟨gg, 0, none⟩) (A.length + 1) c2) (M7.cutT (l.take (i + 1)))) := by rw [htk.out]; exact hT6.out
        clear hown6 hgrow hat6 hrunA hT6
        go_wp2_with fail
        go_roundw
        case rel => exact ⟨i + 1, by omega, by omega, by go_num, hT7.out, hb6⟩
        case measure => simp [intOf]; omega
    · have hr' : M7.cutT (l.take i) = M7.cutT l := by
        unfold M7.cutT
        rcases Nat.lt_or_ge i l.length with h | h
        · rw [show i = 40 by omega, List.take_take]; rfl
        · rw [List.take_of_length_le h]
      rw [hr'] at hT
      replace hT := Lib.hid hT
      have htest : (decide (i < l.length) = false) ∨ (decide (i < l.length) = true ∧ decide ((i : Int) < 40) = false) := by
        by_cases h : i < l.length
        · exact Or.inr ⟨decide_eq_true (by omega), decide_eq_false (by omega)⟩
        · exact Or.inl (decide_eq_false (by omega))
      clear hlt hr'
      rcases htest with htest | ⟨htest, htest2⟩
      all_goals
        go_wp2_with fail
        go_ret
        exact ⟨u3, rfl, hT.out, hb⟩
end Go.Proofs.Yteefodibpjgicaa

/- The reference of layer 3: weight, all. -/
namespace Go.Proofs.Yteefodibpjgicaa
open Go.RowKit

def WeightPost (l : List Nd) (w : World) (e : Ending) (w' : World) : Prop := e = .returned (.int .i64 (M3.weight l : Int)) ∧ Below w.heap.size w w'

theorem weight_drop (l : List Nd) (i : Nat) (h : i < l.length) : M3.weight (l.take (i + 1)) = M3.weight (l.take i) + (1 + l[i].attrs.length + M3.weight l[i].kids) := by
  rw [List.take_succ_eq_append_getElem h, M3.weight_append, M3.weight_cons, M3.weight_nil]
  omega

theorem weight_take_le (l : List Nd) (i : Nat) : M3.weight (l.take i) ≤ M3.weight l := by
  have : M3.weight l = M3.weight (l.take i) + M3.weight (l.drop i) := by rw [← M3.weight_append, List.take_append_drop]
  omega

theorem all_append (a b : List Nd) : M3.all (a ++ b) = M3.all a ++ M3.all b := by
  induction a with
  | nil => rw [M3.all_nil]; rfl
  | cons x r ih => rw [List.cons_append, M3.all_cons, M3.all_cons, ih]; simp

theorem all_take (l : List Nd) (i : Nat) (h : i < l.length) : M3.all (l.take (i + 1)) = M3.all (l.take i) ++ [l[i]] ++ M3.all l[i].kids := by
  rw [List.take_succ_eq_append_getElem h, all_append, M3.all_cons, M3.all_nil]
  simp

theorem all_take_len (l : List Nd) (i : Nat) : (M3.all (l.take i)).length ≤ M3.weight l := Nat.le_trans (M3.all_len _) (weight_take_le l i)

theorem cellsV_onesW {L : List NV} (h : ∀ b ∈ L, b.ok) : ∀ u ∈ cellsV L, u.oneCell' = true := by
  intro u hu
  obtain ⟨b, hb, hu⟩ := List.mem_flatMap.1 hu
  obtain ⟨⟨a1, c1, h1⟩, a2, c2, h2⟩ := h b hb
  simp [NV.cells, h1, h2] at hu
  rcases hu with rfl | rfl | rfl | rfl | rfl <;> rfl

/-- A row of the call's own, what stands in it shared with what came in. -/
def SharePost (S : Nat → Prop) (l : List Nd) (w : World) (e : Ending) (w' : World) : Prop := ∃ v' L, e = .returned v' ∧ L.map NV.x = l ∧ w'.ownsRow w.heap.size 44 5 v' L.length (cellsV L) ∧ (∀ b ∈ L, RepV S w b.x b.va b.vk) ∧ Below w.heap.size w w'

end Go.Proofs.Yteefodibpjgicaa

/- Law 7: nodes that have their shape. -/
namespace Go.Proofs.Yteefodibpjgicaa
open Go.RowKit

def M7.headBad (p : ByteArray) (pt : Bool) (x : Nd) : Bool := (x.kind == 1 && M6.closesB p.data.toList x.name.data.toList) || (x.kind == 2 && (x.text.toList.isEmpty || pt))

def M7.shapeR (p : ByteArray) (pt : Bool) : List Nd → Bool
  | [] => true
  | .mk k n a t ks :: r => !(M7.headBad p pt (.mk k n a t ks)) && (!(M3.voidB n.data.toList && !ks.isEmpty) && M7.shapeR n false ks) && M7.shapeR p (k == 2) r
termination_by l => SizeOf.sizeOf l

/-- No text is empty or beside another, a void element has no kids, no kid closes its parent. -/
def M7.shapeB (p : ByteArray) (l : List Nd) : Bool := !(M3.voidB p.data.toList && !l.isEmpty) && M7.shapeR p false l

theorem M7.shapeR_cons (p : ByteArray) (pt : Bool) (x : Nd) (r : List Nd) : M7.shapeR p pt (x :: r) = (!(M7.headBad p pt x) && M7.shapeB x.name x.kids && M7.shapeR p (x.kind == 2) r) := by
  cases x
  rw [M7.shapeR]; rfl

def M7.ptAt (l : List Nd) : Nat → Bool
  | 0 => false
  | j + 1 => match l[j]? with | some x => x.kind == 2 | none => false

theorem M7.shape_step {p : ByteArray} {l : List Nd} {i : Nat} (hi : i < l.length) : M7.shapeR p (M7.ptAt l i) (l.drop i) = (!(M7.headBad p (M7.ptAt l i) l[i]) && M7.shapeB l[i].name l[i].kids && M7.shapeR p (M7.ptAt l (i + 1)) (l.drop (i + 1))) := by
  rw [List.drop_eq_getElem_cons hi, M7.shapeR_cons]
  have h : M7.ptAt l (i + 1) = (l[i].kind == 2) := by
    show (match l[i]? with | some x => x.kind == 2 | none => false) = _
    rw [List.getElem?_eq_getElem hi]
  rw [h]


end Go.Proofs.Yteefodibpjgicaa

/- Layer 7's statements: what all of them ask; BuildWeighs, BuildShape. -/
namespace Go.Proofs.Yteefodibpjgicaa
open Go.RowKit Go.Maps Go.ChangeShapes Go.WideShapes

section
variable {H : Type} {enc : TypeId × Value → H} {w : World} {base : Nat} {spare : Nat → Bool} {held : Bool}
theorem open_tok {n : Nat} {cs : List Value} {y : DataW H × List MemPlace} (hl : cs.length = 4) (h : DataW.trod enc Try.prog w base spare held n 33 cs = some y) :
    ∃ (b : Tok × Value), cs = b.1.cells b.2 ∧ Row (fun b => b < w.heap.size) w 2 b.2 b.1.attrs.length (cellsA b.1.attrs) ∧ Sz1 (M7.ndT b.1) ∧ (Lit.int .i64 b.1.kind).wf = true := by
  match cs, hl with
  | [c0, c1, c2, c3], _ =>
    obtain ⟨xs, m, hm, _, _, hxs, hf⟩ := DataW.trod_struct Try.underlying33 h
    have h0 := hf 0 _ rfl
    have h1 := hf 1 _ rfl
    have h2 := hf 2 _ rfl
    have h3 := hf 3 _ rfl
    change DataW.trod enc Try.prog w base spare held m 3 ((([c0, c1, c2, c3] : List Value).drop 0).take (Try.prog.cellsOf 3)) = xs[0]? at h0
    change DataW.trod enc Try.prog w base spare held m 9 ((([c0, c1, c2, c3] : List Value).drop 1).take (Try.prog.cellsOf 9)) = xs[1]? at h1
    change DataW.trod enc Try.prog w base spare held m 31 ((([c0, c1, c2, c3] : List Value).drop 2).take (Try.prog.cellsOf 31)) = xs[2]? at h2
    change DataW.trod enc Try.prog w base spare held m 9 ((([c0, c1, c2, c3] : List Value).drop 3).take (Try.prog.cellsOf 9)) = xs[3]? at h3
    rw [cell1 3 (Or.inr (Or.inl rfl))] at h0
    rw [cell1 9 (Or.inl rfl)] at h1 h3
    rw [cell1 31 (Or.inr (Or.inr (Or.inl rfl)))] at h2
    simp only [List.drop_zero, List.take_succ_cons, List.take_zero, List.drop_succ_cons] at h0 h1 h2 h3
    rw [List.getElem?_eq_getElem (by rw [hxs]; decide)] at h0
    rw [List.getElem?_eq_getElem (by rw [hxs]; decide)] at h1
    rw [List.getElem?_eq_getElem (by rw [hxs]; decide)] at h2
    rw [List.getElem?_eq_getElem (by rw [hxs]; decide)] at h3
    obtain ⟨k, e0, _, z0⟩ := DataW.trod_int Try.underlying3 h0
    obtain ⟨s1, e1, _, z1⟩ := DataW.trod_string Try.underlying9 h1
    obtain ⟨va, L, e2, r2, z2⟩ := open_attrs h2
    obtain ⟨s3, e3, _, z3⟩ := DataW.trod_string Try.underlying9 h3
    unfold maxLen at z1 z3
    simp only [List.cons.injEq, and_true] at e0 e1 e2 e3
    exact ⟨(⟨k, s1, L, s3⟩, va), by rw [e0, e1, e2, e3]; rfl, r2, ⟨by show s1.size ≤ _; omega, by show s3.size ≤ _; omega, z2⟩, z0⟩
theorem open_toks {fuel : Nat} {cs : List Value} {x : DataW H × List MemPlace} (h : DataW.trod enc Try.prog w base spare held fuel 22 cs = some x) :
    ∃ (v : Value) (l : List Tok), cs = [v] ∧ TokR (fun b => b < w.heap.size) w v l ∧ SzT l := by
  obtain ⟨v, L, hv, hr, hq⟩ := open_rows Try.underlying22 (by kernel_rfl) (by decide) h (fun b : Tok × Value => b.1.cells b.2) (fun _ => rfl) (fun b => Row (fun b => b < w.heap.size) w 2 b.2 b.1.attrs.length (cellsA b.1.attrs) ∧ Sz1 (M7.ndT b.1) ∧ (Lit.int .i64 b.1.kind).wf = true)
    (fun n cs' y _ hl h => open_tok hl h)
  refine ⟨v, L.map Prod.fst, hv, ⟨_, by simpa using hr, ?_⟩, fun t ht => ?_⟩
  · clear hr hv h
    induction L with
    | nil => rfl
    | cons b r ih => exact ⟨b.2, _, by rw [List.flatMap_cons], (hq b (by simp)).1, ih (fun c hc => hq c (by simp [hc]))⟩
  · obtain ⟨b, hb, rfl⟩ := List.mem_map.1 ht
    exact (hq b hb).2
end

theorem few_size7 (s : ByteArray) : (M3.few s).size ≤ 30 := by
  unfold M3.few
  split
  · simp [ByteArray.size_extract]; omega
  · omega
theorem cut_fit7 {l : List Tok} (h : SzT l) : FitL (M7.cutT l) := by
  refine ⟨by unfold M7.cutT; simp; omega, fun t ht => ?_⟩
  obtain ⟨u, hu, rfl⟩ := List.mem_map.1 ht
  have h1 := few_size7 u.name
  have h2 := few_size7 u.text
  exact ⟨⟨by show (M3.few _).size ≤ _; omega, by show (M3.few _).size ≤ _; omega, by show ((u.attrs.take 5).map M3.fewA).length ≤ _; simp; omega⟩, (h u (List.mem_of_mem_take hu)).2⟩
theorem sum_le {α : Type} (f : α → Nat) (k : Nat) : ∀ (l : List α), (∀ a ∈ l, f a ≤ k) → (l.map f).sum ≤ l.length * k
  | [], _ => by simp
  | a :: r, h => by
    have h1 := sum_le f k r (fun b hb => h b (by simp [hb]))
    have h2 := h a (by simp)
    rw [List.map_cons, List.sum_cons, List.length_cons, Nat.add_mul]
    omega
theorem cut_tokW (l : List Tok) : ((M7.cutT l).map M7.tokW).sum ≤ 240 := by
  have h := sum_le M7.tokW 6 (M7.cutT l) (fun t ht => by
    obtain ⟨u, hu, rfl⟩ := List.mem_map.1 ht
    have : (M7.fewT u).attrs.length ≤ 5 := by show ((u.attrs.take 5).map M3.fewA).length ≤ _; simp; omega
    unfold M7.tokW
    split
    · omega
    · split <;> omega)
  have : (M7.cutT l).length ≤ 40 := by unfold M7.cutT; simp; omega
  omega
theorem cut_weight7 (l : List Tok) : M3.weight (M7.tree (M7.cutT l)) ≤ 240 := Nat.le_trans (M7.weight_run _) (cut_tokW l)

def sumT (l : List Tok) (i : Nat) : Nat := ((l.take i).map M7.tokW).sum
theorem sumT_succ (l : List Tok) (i : Nat) (h : i < l.length) : sumT l (i + 1) = sumT l i + M7.tokW l[i] := by
  unfold sumT
  rw [List.take_succ_eq_append_getElem h, List.map_append, List.sum_append]
  simp
theorem sumT_le (l : List Tok) (i : Nat) : sumT l i ≤ (l.map M7.tokW).sum := by
  have : (l.map M7.tokW).sum = sumT l i + ((l.drop i).map M7.tokW).sum := by
    unfold sumT
    rw [← List.sum_append, ← List.map_append, List.take_append_drop]
  omega

theorem TokR.of {w : World} {B : Nat} {v : Value} {l : List Tok} (h : Toks w B v l) : TokR (fun b => B ≤ b ∧ b < w.heap.size) w v l := by
  obtain ⟨xs, h1, h2⟩ := h.rows
  exact ⟨xs, h1, h2⟩


end Go.Proofs.Yteefodibpjgicaa

/- Reference 7: one token. -/
namespace Go.Proofs.Yteefodibpjgicaa
open Go.RowKit

/-- Nodes and a path: some of what was handed in, some made since. -/
def ShrB (S : Nat → Prop) (s : M7.St) (w : World) (e : Ending) (w' : World) : Prop := ∃ v' vp', e = .returned (.agg #[v', vp']) ∧ RepN (fun b => S b ∨ (w.heap.size ≤ b ∧ b < w'.heap.size)) w' v' s.L ∧ Ints (fun b => S b ∨ (w.heap.size ≤ b ∧ b < w'.heap.size)) w' vp' (M7.pathN s.d s.L) ∧ Below w.heap.size w w'

/-- Three boxes, one behind the other. -/
theorem three7 (w : World) (t1 t2 t3 : TypeId) (c1 c2 c3 : List Value) : ∃ W, ((w.alloc (.cells c1.toArray t1)).alloc (.cells c2.toArray t2)).alloc (.cells c3.toArray t3) = W ∧ Box W w.heap.size t1 c1 ∧ Box W (w.heap.size + 1) t2 c2 ∧ Box W (w.heap.size + 1 + 1) t3 c3 ∧ Below w.heap.size w W ∧ W.heap.size = w.heap.size + 3 := by
  have h1 : (w.alloc (.cells c1.toArray t1)).heap.size = w.heap.size + 1 := by simp
  have h2 : ((w.alloc (.cells c1.toArray t1)).alloc (.cells c2.toArray t2)).heap.size = w.heap.size + 1 + 1 := by simp
  have q2 := Box.new (w.alloc (.cells c1.toArray t1)) t2 c2
  have q3 := Box.new ((w.alloc (.cells c1.toArray t1)).alloc (.cells c2.toArray t2)) t3 c3
  rw [h1] at q2
  rw [h2] at q3
  refine ⟨_, rfl, ((Box.new w t1 c1).alloc _).alloc _, q2.alloc _, q3, (((Below.refl _ w).alloc (Nat.le_refl _) _).alloc (by omega) _).alloc (by omega) _, by simp⟩

theorem Ints.take {S : Nat → Prop} {w : World} {a : Option Addr} {n cap : Nat} {l : List Nat} (h : Ints S w (.slice a n cap) l) (i : Nat) (hi : i ≤ l.length) : Ints S w (.slice a i cap) (l.take i) := by
  obtain ⟨h0, a', cap', h1, h2, h3, h4, h5⟩ := h
  cases h1
  refine ⟨by simp, a, cap, by rw [List.length_take, Nat.min_eq_left hi], by rw [List.length_take]; omega, h3, h4, fun hp => ?_⟩
  rw [List.length_take] at hp
  obtain ⟨b, off, e, hb, hx⟩ := h5 (by omega)
  refine ⟨b, off, e, hb, fun j y hj => hx j y ?_⟩
  rw [List.map_take, List.getElem?_take] at hj
  split at hj
  · exact hj
  · cases hj

theorem level_le (d : Nat) : ∀ (L : List Nd), (M7.levelN d L).length ≤ M3.weight L := by
  induction d with
  | zero => intro L; exact M3.length_le_weight L
  | succ d ih =>
    intro L
    rcases List.eq_nil_or_concat L with rfl | ⟨A, x, rfl⟩
    · exact Nat.zero_le _
    · rw [List.concat_eq_append, M7.levelN_snoc, M3.weight_append, M3.weight_cons]
      have := ih x.kids
      omega

/-- A call, and a store of a pair of its answer, in whatever order the rest stands. -/
def StK (S : Nat → Prop) (w0 : World) (g : Nat) (l : List Nd) (pv : Value) (f : Nat → Bool) (t : Nat → Value) (W : World) : Prop :=
  (f 11 = false → Below w0.heap.size w0 W ∧ (f 7 = true → RepN (fun b => S b ∨ (w0.heap.size ≤ b ∧ b < W.heap.size)) W (t 7) l)) ∧
  (f 10 = true → f 7 = true ∧ t 10 = .agg #[t 7, pv]) ∧
  (f 11 = true → (∀ j, j < 11 → f j = true) ∧ ∃ W0, Below w0.heap.size w0 W0 ∧ RepN (fun b => S b ∨ (w0.heap.size ≤ b ∧ b < W0.heap.size)) W0 (t 7) l ∧ W = (W0.setCell ⟨g, 0, none⟩ (t 7)).setCell ⟨g, 1, none⟩ pv)

section
variable {S : Nat → Prop} {w0 W : World} {g : Nat} {l : List Nd} {pv : Value} {f : Nat → Bool} {t : Nat → Value}

theorem StK.start (S : Nat → Prop) (w0 : World) (g : Nat) (l : List Nd) (pv : Value) (t : Nat → Value) : StK S w0 g l pv (fun j => decide (12 ≤ j)) t w0.drew :=
  ⟨fun _ => ⟨(Below.refl _ w0).drew, fun h => by simp at h⟩, fun h => by simp at h, fun h => by simp at h⟩

theorem StK.notlast (h : StK S w0 g l pv f t W) {j : Nat} (hj : j < 12) (hf : f j = false) : f 11 = false := by
  cases h10 : f 11
  · rfl
  · rcases (by omega : j < 11 ∨ j = 11) with hl | rfl
    · have := (h.2.2 h10).1 j hl
      rw [hf] at this
      cases this
    · rw [h10] at hf
      cases hf

theorem StK.same (h : StK S w0 g l pv f t W) (j : Nat) (v : Value) (h1 : j ≠ 7) (h2 : j ≠ 10) (h3 : j ≠ 11) : StK S w0 g l pv (updF f j) (updT t j v) W := by
  refine ⟨fun e => ?_, fun e => ?_, fun e => ?_⟩
  · rw [updF_ne f (Ne.symm h3)] at e
    rw [updF_ne f (Ne.symm h1), updT_ne _ _ (Ne.symm h1)]
    exact h.1 e
  · rw [updF_ne f (Ne.symm h2)] at e
    rw [updF_ne f (Ne.symm h1), updT_ne _ _ (Ne.symm h1), updT_ne _ _ (Ne.symm h2)]
    exact h.2.1 e
  · rw [updF_ne f (Ne.symm h3)] at e
    obtain ⟨e1, e2⟩ := h.2.2 e
    rw [updT_ne _ _ (Ne.symm h1)]
    exact ⟨fun k hk => by unfold updF; split; rfl; exact e1 k hk, e2⟩

theorem StK.call (h : StK S w0 g l pv f t W) (hn : f 11 = false) (h7 : f 7 = false) {W' : World} {v : Value} (hv : RepN (fun b => S b ∨ (W.heap.size ≤ b ∧ b < W'.heap.size)) W' v l) (hb : Below W.heap.size W W') : StK S w0 g l pv (updF f 7) (updT t 7 v) W' := by
  obtain ⟨q1, _⟩ := h.1 hn
  have hz := q1.size
  refine ⟨fun _ => ⟨bt q1 hb, fun _ => ?_⟩, fun e => ?_, fun e => ?_⟩
  · rw [updT_same]
    refine hv.mono (fun b hb' => ?_)
    rcases hb' with hb' | hb'
    · exact Or.inl hb'
    · exact Or.inr ⟨by omega, hb'.2⟩
  · rw [updF_ne f (by decide)] at e
    rw [(h.2.1 e).1] at h7
    cases h7
  · rw [updF_ne f (by decide), hn] at e
    cases e

theorem StK.made (h : StK S w0 g l pv f t W) (h7 : f 7 = true) : StK S w0 g l pv (updF f 10) (updT t 10 (.agg #[t 7, pv])) W := by
  refine ⟨fun e => ?_, fun _ => ?_, fun e => ?_⟩
  · rw [updF_ne f (by decide)] at e
    rw [updF_ne f (by decide), updT_ne _ _ (by decide)]
    exact h.1 e
  · rw [updF_ne f (by decide), updT_same, updT_ne _ _ (by decide)]
    exact ⟨h7, rfl⟩
  · rw [updF_ne f (by decide)] at e
    obtain ⟨e1, e2⟩ := h.2.2 e
    rw [updT_ne _ _ (by decide)]
    exact ⟨fun k hk => by unfold updF; split; rfl; exact e1 k hk, e2⟩

theorem StK.put (h : StK S w0 g l pv f t W) (hn : f 11 = false) (hall : ∀ j, j < 11 → f j = true) (v : Value) : StK S w0 g l pv (updF f 11) (updT t 11 v) ((W.setCell ⟨g, 0, none⟩ (t 7)).setCell ⟨g, 1, none⟩ pv) := by
  obtain ⟨q1, q2⟩ := h.1 hn
  refine ⟨fun e => by simp at e, fun e => ?_, fun _ => ⟨fun k hk => by unfold updF; split; rfl; exact hall k hk, W, q1, ?_, ?_⟩⟩
  · rw [updF_ne f (by decide)] at e
    rw [updF_ne f (by decide), updT_ne _ _ (by decide), updT_ne _ _ (by decide)]
    exact h.2.1 e
  · rw [updT_ne _ _ (by decide)]; exact q2 (hall 7 (by decide))
  · rw [updT_ne _ _ (by decide)]
end

set_option maxHeartbeats 8000000 in
set_option maxRecDepth 100000 in
theorem ref07Put (S : Nat → Prop) (v vp va : Value) (s : M7.St) (t : Tok) (w : World) (hok : s.ok) (hd : s.d ≤ 1000000) (hw : M3.weight s.L ≤ 100000) (ht : dtN s.L + t.text.size ≤ 1073741824) (hS : ∀ b, S b → b < w.heap.size) (hr : RepN S w v s.L) (hp : Ints S w vp (M7.pathN s.d s.L)) (ha : Row S w 2 va t.attrs.length (cellsA t.attrs)) :
    Calls Try.prog 8 #[.agg #[v, vp], .agg #[.int .i64 t.kind, .string t.name, va, .string t.text]] w (ShrB S (M7.step s t) w) := by
  obtain ⟨L, d⟩ := s
  obtain ⟨kt, nt, att, tt⟩ := t
  obtain ⟨s', hs'⟩ : ∃ s', Hid (M7.step ⟨L, d⟩ ⟨kt, nt, att, tt⟩ = s') := ⟨_, rfl⟩
  rw [hs'.out]
  have hok : M7.okD d L := hok
  simp only at hd hw ht hr hp ha ⊢
  obtain ⟨a, cap, rfl⟩ := hr.slice
  obtain ⟨ap, cp, hvp⟩ := Row.slice hp
  have hpl := M7.pathN_len hok
  rw [hpl] at hvp
  subst hvp
  obtain ⟨at_, ct, hva⟩ := Row.slice ha
  subst hva
  obtain ⟨-, hlp, hcp⟩ := Row.len hp
  obtain ⟨wo, rfl⟩ : ∃ wo : World, wo = w := ⟨_, rfl⟩
  replace hok := Lib.hid hok
  go_enter Try.func8, Try.ntmps8
  go_upto_region 1 with (fail)
  obtain ⟨W3, hW3, bxB, bxT, bxR, hb3, hz3⟩ := three7 wo 29 33 29 [.slice a L.length cap, .slice ap d cp] [.int .i64 kt, .string nt, .slice at_ att.length ct, .string tt] [.slice none 0 0, .slice none 0 0]
  have hW3' : ((wo.alloc (.cells #[.slice a L.length cap, .slice ap d cp] 29)).alloc (.cells #[.int .i64 kt, .string nt, .slice at_ att.length ct, .string tt] 33)).alloc (.cells #[.slice none 0 0, .slice none 0 0] 29) = W3 := hW3
  rw [hW3']
  clear hW3 hW3'
  have hSW : ∀ b, S b → b < W3.heap.size := fun b hb => Nat.lt_of_lt_of_le (hS b hb) hb3.size
  have hOp := Lib.hid (ref07Open S (.slice a L.length cap) (.slice ap d cp) L d W3 hSW (hr.below hS hb3) hok.out hd (hp.below hS hb3))
  have hol := M7.openN_len hok.out
  generalize hO : M7.openN d L = O at *
  replace hO := Lib.hid hO
  have p0 := bxB.cell (i := 0) rfl
  have p1 := bxB.cell (i := 1) rfl
  replace hr := Lib.hid hr
  replace hp := Lib.hid hp
  replace ha := Lib.hid ha
  replace hSW := Lib.hid hSW
  go_upto_region 2 with (go_at_call 10; refine hOp.out.mono ?_; rintro e w4 ⟨vo, rfl, hto, hb4⟩)
  obtain ⟨ao, co, hvo⟩ := Row.slice hto
  rw [hol] at hvo
  subst hvo
  obtain ⟨-, hlo, hco⟩ := Row.len hto
  have hbo := bt hb3 hb4
  have hz4 := hb4.size
  replace bxB := bxB.below hb4 bxB.lt
  replace bxT := bxT.below hb4 bxT.lt
  replace bxR := bxR.below hb4 bxR.lt
  replace hto := Lib.hid hto
  clear hOp p0 p1 hb4
  have hlt4 : wo.heap.size + 1 + 1 < w4.heap.size := bxR.lt
  have p0 := bxB.cell (i := 0) rfl
  have p1 := bxB.cell (i := 1) rfl
  have k0 := bxT.cell (i := 0) rfl
  have k1 := bxT.cell (i := 1) rfl
  have k2 := bxT.cell (i := 2) rfl
  have k3 := bxT.cell (i := 3) rfl
  have r0 := bxR.cell (i := 0) rfl
  have r1 := bxR.cell (i := 1) rfl
  have f0 := bxR.free 0
  have f1 := bxR.free 1
  by_cases hk3 : kt = 3
  · subst hk3
    have hs1 : Hid (s' = ⟨M7.putN d (.mk 2 ⟨#[]⟩ [] tt []) L, d⟩) := hs'.out.symm
    go_upto_region 23 with (fail)
    obtain ⟨l8, hl8⟩ : ∃ l8, Hid (M7.putN d (.mk 2 ⟨#[]⟩ [] tt []) L = l8) := ⟨_, rfl⟩
    rw [hl8.out] at hs1
    have hcall : ∀ W, Below w4.heap.size w4 W → Calls Try.prog 19 #[.slice a L.length cap, .slice ap d cp, .agg #[.int .i64 2, .string ⟨#[]⟩, .slice none 0 0, .string tt, .slice none 0 0]] W (ShrP S l8 W) := fun W hW => by
      have hbW := bt hbo hW
      have h := ref07put d S (.slice a L.length cap) (.slice ap d cp) L (.mk 2 ⟨#[]⟩ [] tt []) (.slice none 0 0) (.slice none 0 0) W hok.out hd hw ht (fun b hb => Nat.lt_of_lt_of_le (hS b hb) hbW.size) (hr.out.below hS hbW) (hp.out.below hS hbW) ⟨Row.nil _ _ _, RepN.nil _ _⟩
      rw [hl8.out] at h
      exact h
    replace hcall := Lib.hid hcall
    replace bxB := Lib.hid bxB
    replace bxT := Lib.hid bxT
    replace bxR := Lib.hid bxR
    refine wp_region_known (n := 12) ([some (.pointer (some ⟨wo.heap.size, 0, none⟩)), some (.slice a L.length cap), some (.pointer (some ⟨wo.heap.size, 1, none⟩)), some (.slice ap d cp), some (.pointer (some ⟨wo.heap.size + 1, 3, none⟩)), some (.string tt), some (.agg #[.int .i64 2, .string ⟨#[]⟩, .slice none 0 0, .string tt, .slice none 0 0]), none, some (.pointer (some ⟨wo.heap.size, 1, none⟩)), some (.slice ap d cp), none, none] : List (Option Value)) (fun t => ⟨#[Value.agg #[Value.slice a L.length cap, Value.slice ap d cp], Value.agg #[Value.int IntKind.i64 3, Value.string nt, Value.slice at_ att.length ct, Value.string tt], Value.pointer (some ⟨wo.heap.size, 0, none⟩), Value.pointer (some ⟨wo.heap.size + 1, 0, none⟩), Value.pointer (some ⟨wo.heap.size + 1 + 1, 0, none⟩), Value.slice ao d co, Value.int IntKind.i64 (d : Int), undef, undef, undef, undef, undef, undef, Value.agg #[Value.slice a L.length cap, Value.slice ap d cp], Value.slice ao d co, Value.slice ao d co, Value.int IntKind.i64 (d : Int), Value.pointer (some ⟨wo.heap.size + 1, 0, none⟩), Value.int IntKind.i64 3, Value.bool false, Value.bool false, undef, undef, undef, undef, undef, undef, undef, undef, undef, undef, undef, undef, undef, undef, undef, undef, undef, undef, undef, undef, undef, undef, undef, undef, undef, undef, undef, undef, undef, undef, undef, undef, undef, undef, undef, undef, undef, undef, undef, undef, undef, undef, undef, undef, undef, undef, Value.bool false, Value.bool false, undef, undef, undef, undef, undef, undef, undef, undef, undef, undef, undef, undef, undef, undef, undef, undef, undef, undef, undef, undef, Value.bool true, Value.bool true, t 0, t 1, t 2, t 3, t 4, t 5, t 6, t 7, t 8, t 9, t 10, undef, undef, undef, undef, undef, undef, undef, undef, undef, undef, undef, undef, undef, undef], []⟩) (fun f t W => StK S w4 (wo.heap.size + 1 + 1) l8 (.slice ap d cp) f t W) (fun j => match j with | 0 => undef | 1 => undef | 2 => undef | 3 => undef | 4 => undef | 5 => undef | 6 => undef | 7 => undef | 8 => undef | 9 => undef | 10 => undef | _ => undef) (by kernel_rfl) (by rfl) (by rfl) (by kernel_rfl) rfl ?i0 ?step ?fin
    case i0 =>
      exact StK.start _ _ _ _ _ _
    case step =>
      intro j0 hj0 f t W hfi hwt hk2 hI
      have h11 := hI.notlast hj0 hfi
      obtain ⟨hlow, -⟩ := hI.1 h11
      have s0 := cell_of_below hlow p0 (by omega)
      have s1 := cell_of_below hlow p1 (by omega)
      have s3 := cell_of_below hlow k3 (by omega)
      obtain rfl | rfl | rfl | rfl | rfl | rfl | rfl | rfl | rfl | rfl | rfl | rfl : j0 = 0 ∨ j0 = 1 ∨ j0 = 2 ∨ j0 = 3 ∨ j0 = 4 ∨ j0 = 5 ∨ j0 = 6 ∨ j0 = 7 ∨ j0 = 8 ∨ j0 = 9 ∨ j0 = 10 ∨ j0 = 11 := by omega
      · -- operation 0
        clear hlow h11
        replace hI := Lib.hid hI
        replace hk2 := Lib.hid hk2
        clear hwt
        refine wpOp_step rfl (fun K hK => ?_)
        go_simp
        exact hK _ _ ⟨_, by simp [updT], hk2.out.at_ rfl, hI.out.same _ _ (by decide) (by decide) (by decide)⟩
      · -- operation 1
        have e0 : t 0 = .pointer (some ⟨wo.heap.size, 0, none⟩) := hk2 0 _ (hwt 0 (by kernel_rfl)) rfl
        clear hlow h11
        replace hI := Lib.hid hI
        replace hk2 := Lib.hid hk2
        clear hwt
        refine wpOp_step rfl (fun K hK => ?_)
        go_simp
        exact hK _ _ ⟨_, by simp [updT, e0], hk2.out.at_ rfl, hI.out.same _ _ (by decide) (by decide) (by decide)⟩
      · -- operation 2
        clear hlow h11
        replace hI := Lib.hid hI
        replace hk2 := Lib.hid hk2
        clear hwt
        refine wpOp_step rfl (fun K hK => ?_)
        go_simp
        exact hK _ _ ⟨_, by simp [updT], hk2.out.at_ rfl, hI.out.same _ _ (by decide) (by decide) (by decide)⟩
      · -- operation 3
        have e2 : t 2 = .pointer (some ⟨wo.heap.size, 1, none⟩) := hk2 2 _ (hwt 2 (by kernel_rfl)) rfl
        clear hlow h11
        replace hI := Lib.hid hI
        replace hk2 := Lib.hid hk2
        clear hwt
        refine wpOp_step rfl (fun K hK => ?_)
        go_simp
        exact hK _ _ ⟨_, by simp [updT, e2], hk2.out.at_ rfl, hI.out.same _ _ (by decide) (by decide) (by decide)⟩
      · -- operation 4
        clear hlow h11
        replace hI := Lib.hid hI
        replace hk2 := Lib.hid hk2
        clear hwt
        refine wpOp_step rfl (fun K hK => ?_)
        go_simp
        exact hK _ _ ⟨_, by simp [updT], hk2.out.at_ rfl, hI.out.same _ _ (by decide) (by decide) (by decide)⟩
      · -- operation 5
        have e4 : t 4 = .pointer (some ⟨wo.heap.size + 1, 3, none⟩) := hk2 4 _ (hwt 4 (by kernel_rfl)) rfl
        clear hlow h11
        replace hI := Lib.hid hI
        replace hk2 := Lib.hid hk2
        clear hwt
        refine wpOp_step rfl (fun K hK => ?_)
        go_simp
        exact hK _ _ ⟨_, by simp [updT, e4], hk2.out.at_ rfl, hI.out.same _ _ (by decide) (by decide) (by decide)⟩
      · -- operation 6
        have e5 : t 5 = .string tt := hk2 5 _ (hwt 5 (by kernel_rfl)) rfl
        clear hlow h11
        replace hI := Lib.hid hI
        replace hk2 := Lib.hid hk2
        clear hwt
        refine wpOp_step rfl (fun K hK => ?_)
        go_simp
        exact hK _ _ ⟨_, by simp [updT, e5], hk2.out.at_ rfl, hI.out.same _ _ (by decide) (by decide) (by decide)⟩
      · -- operation 7
        have e1 : t 1 = .slice a L.length cap := hk2 1 _ (hwt 1 (by kernel_rfl)) rfl
        have e3 : t 3 = .slice ap d cp := hk2 3 _ (hwt 3 (by kernel_rfl)) rfl
        have e6 : t 6 = .agg #[.int .i64 2, .string ⟨#[]⟩, .slice none 0 0, .string tt, .slice none 0 0] := hk2 6 _ (hwt 6 (by kernel_rfl)) rfl
        have hC := Lib.hid (hcall.out W hlow)
        replace h11 := Lib.hid h11
        replace hfi := Lib.hid hfi
        clear hlow
        replace hk2 := Lib.hid hk2
        replace hI := Lib.hid hI
        clear hwt
        refine wpOp_step rfl (fun K hK => ?_)
        go_simp
        refine hC.out.mono ?_
        rintro e w5 ⟨v5, rfl, hr5, hb5⟩
        exact hK _ _ ⟨v5, by simp [updT, e1, e3, e6], hk2.out.free rfl, hI.out.call h11.out hfi.out hr5 hb5⟩
      · -- operation 8
        clear hlow h11
        replace hI := Lib.hid hI
        replace hk2 := Lib.hid hk2
        clear hwt
        refine wpOp_step rfl (fun K hK => ?_)
        go_simp
        exact hK _ _ ⟨_, by simp [updT], hk2.out.at_ rfl, hI.out.same _ _ (by decide) (by decide) (by decide)⟩
      · -- operation 9
        have e8 : t 8 = .pointer (some ⟨wo.heap.size, 1, none⟩) := hk2 8 _ (hwt 8 (by kernel_rfl)) rfl
        clear hlow h11
        replace hI := Lib.hid hI
        replace hk2 := Lib.hid hk2
        clear hwt
        refine wpOp_step rfl (fun K hK => ?_)
        go_simp
        exact hK _ _ ⟨_, by simp [updT, e8], hk2.out.at_ rfl, hI.out.same _ _ (by decide) (by decide) (by decide)⟩
      · -- operation 10
        have e9 : t 9 = .slice ap d cp := hk2 9 _ (hwt 9 (by kernel_rfl)) rfl
        obtain ⟨a8, c8, e7⟩ := ((hI.1 h11).2 (hwt 7 (by kernel_rfl))).slice
        have hm := hI.made (hwt 7 (by kernel_rfl))
        rw [e7] at hm
        replace hm := Lib.hid hm
        clear hlow h11
        replace hk2 := Lib.hid hk2
        replace hI := Lib.hid hI
        clear hwt
        refine wpOp_step rfl (fun K hK => ?_)
        go_simp
        exact hK _ _ ⟨.agg #[.slice a8 l8.length c8, .slice ap d cp], by simp [updT, e7, e9], hk2.out.free rfl, hm.out⟩
      · -- operation 11
        have hall : ∀ j, j < 11 → f j = true := fun j hj => by
          rcases (by omega : j = 0 ∨ j = 1 ∨ j = 2 ∨ j = 3 ∨ j = 4 ∨ j = 5 ∨ j = 6 ∨ j = 7 ∨ j = 8 ∨ j = 9 ∨ j = 10) with rfl | rfl | rfl | rfl | rfl | rfl | rfl | rfl | rfl | rfl | rfl <;> exact hwt _ (by kernel_rfl)
        obtain ⟨a8, c8, e8⟩ := ((hI.1 h11).2 (hall 7 (by decide))).slice
        have e10 := (hI.2.1 (hall 10 (by decide))).2
        have hput := hI.put h11 hall undef
        rw [e8] at hput e10
        have bx := bxR.out.below hlow bxR.out.lt
        have g0 := bx.cell (i := 0) rfl
        have g1 := bx.cell (i := 1) rfl
        have x0 := bx.free 0
        have x1 := bx.free 1
        replace hput := Lib.hid hput
        replace bx := Lib.hid bx
        clear hall hlow h11
        replace hk2 := Lib.hid hk2
        replace hI := Lib.hid hI
        clear hwt
        refine wpOp_step rfl (fun K hK => ?_)
        go_simp
        exact hK _ _ ⟨undef, by simp [updT, e8, e10, ], hk2.out.free rfl, hput.out⟩
    case fin =>
      intro f t W hall hk2 hI
      have e10 := (hI.2.1 (hall 10 (by omega))).2
      obtain ⟨_, W0, hb0, hr8, rfl⟩ := hI.2.2 (hall 11 (by omega))
      clear hk2 hall hI
      obtain ⟨a8, c8, e8⟩ := hr8.slice
      rw [e8] at hr8 e10 ⊢
      rw [e10]
      clear e10 e8
      have bx2 := (bxR.out.below hb0 bxR.out.lt).two (.slice a8 l8.length c8) (.slice ap d cp)
      have q0 := bx2.cell (i := 0) rfl
      have q1 := bx2.cell (i := 1) rfl
      have hbf := Lib.hid (two_below (bt hbo hb0) (g := wo.heap.size + 1 + 1) (.slice a8 l8.length c8) (.slice ap d cp) (by omega))
      have hsz : ((W0.setCell ⟨wo.heap.size + 1 + 1, 0, none⟩ (.slice a8 l8.length c8)).setCell ⟨wo.heap.size + 1 + 1, 1, none⟩ (.slice ap d cp)).heap.size = W0.heap.size := by simp [World.setCell]
      have hfar : ∀ c, c ≠ wo.heap.size + 1 + 1 → ((W0.setCell ⟨wo.heap.size + 1 + 1, 0, none⟩ (.slice a8 l8.length c8)).setCell ⟨wo.heap.size + 1 + 1, 1, none⟩ (.slice ap d cp)).heap[c]? = W0.heap[c]? := fun c hc => by
        rw [Below.heap_setCell _ _ _ _ (by simpa using hc), Below.heap_setCell _ _ _ _ (by simpa using hc)]
      have hz8 := hb0.size
      have hk8 : Hid (RepN (fun b => S b ∨ (wo.heap.size ≤ b ∧ b < ((W0.setCell ⟨wo.heap.size + 1 + 1, 0, none⟩ (.slice a8 l8.length c8)).setCell ⟨wo.heap.size + 1 + 1, 1, none⟩ (.slice ap d cp)).heap.size)) ((W0.setCell ⟨wo.heap.size + 1 + 1, 0, none⟩ (.slice a8 l8.length c8)).setCell ⟨wo.heap.size + 1 + 1, 1, none⟩ (.slice ap d cp)) (.slice a8 l8.length c8) l8) := by
        refine (hr8.keep (fun c hc => hfar c ?_)).mono (fun c hc => ?_)
        · rcases hc with hc | hc
          · have := hS c hc
            omega
          · omega
        · rcases hc with hc | hc
          · exact Or.inl hc
          · exact Or.inr ⟨by omega, by rw [hsz]; exact hc.2⟩
      clear bx2 hr8 hsz hfar hb0
      try dsimp only
      go_wp2_with fail
      refine bodyPost_ret (v := .agg #[.slice a8 l8.length c8, .slice ap d cp]) (by simp [results, Try.results8, go_sem, q0, q1]) rfl ?_
      rw [hs1.out]
      refine ⟨_, _, rfl, hk8.out, ?_, hbf.out⟩
      have hpp : M7.pathN d l8 = M7.pathN d L := by rw [← hl8.out]; exact M7.put_path _ hok.out
      show Ints _ _ _ (M7.pathN d l8)
      rw [hpp]
      exact Row.mono (hp.out.below hS hbf.out) (fun b hb => Or.inl hb)
  by_cases hk4 : kt = 4
  · subst hk4
    have hs1 : Hid (s' = ⟨M7.putN d (.mk 3 ⟨#[]⟩ [] tt []) L, d⟩) := hs'.out.symm
    go_upto_region 25 with (fail)
    obtain ⟨l8, hl8⟩ : ∃ l8, Hid (M7.putN d (.mk 3 ⟨#[]⟩ [] tt []) L = l8) := ⟨_, rfl⟩
    rw [hl8.out] at hs1
    have hcall : ∀ W, Below w4.heap.size w4 W → Calls Try.prog 19 #[.slice a L.length cap, .slice ap d cp, .agg #[.int .i64 3, .string ⟨#[]⟩, .slice none 0 0, .string tt, .slice none 0 0]] W (ShrP S l8 W) := fun W hW => by
      have hbW := bt hbo hW
      have h := ref07put d S (.slice a L.length cap) (.slice ap d cp) L (.mk 3 ⟨#[]⟩ [] tt []) (.slice none 0 0) (.slice none 0 0) W hok.out hd hw ht (fun b hb => Nat.lt_of_lt_of_le (hS b hb) hbW.size) (hr.out.below hS hbW) (hp.out.below hS hbW) ⟨Row.nil _ _ _, RepN.nil _ _⟩
      rw [hl8.out] at h
      exact h
    replace hcall := Lib.hid hcall
    replace bxB := Lib.hid bxB
    replace bxT := Lib.hid bxT
    replace bxR := Lib.hid bxR
    refine wp_region_known (n := 12) ([some (.pointer (some ⟨wo.heap.size, 0, none⟩)), some (.slice a L.length cap), some (.pointer (some ⟨wo.heap.size, 1, none⟩)), some (.slice ap d cp), some (.pointer (some ⟨wo.heap.size + 1, 3, none⟩)), some (.string tt), some (.agg #[.int .i64 3, .string ⟨#[]⟩, .slice none 0 0, .string tt, .slice none 0 0]), none, some (.pointer (some ⟨wo.heap.size, 1, none⟩)), some (.slice ap d cp), none, none] : List (Option Value)) (fun t => ⟨#[Value.agg #[Value.slice a L.length cap, Value.slice ap d cp], Value.agg #[Value.int IntKind.i64 4, Value.string nt, Value.slice at_ att.length ct, Value.string tt], Value.pointer (some ⟨wo.heap.size, 0, none⟩), Value.pointer (some ⟨wo.heap.size + 1, 0, none⟩), Value.pointer (some ⟨wo.heap.size + 1 + 1, 0, none⟩), Value.slice ao d co, Value.int IntKind.i64 (d : Int), undef, undef, undef, undef, undef, undef, Value.agg #[Value.slice a L.length cap, Value.slice ap d cp], Value.slice ao d co, Value.slice ao d co, Value.int IntKind.i64 (d : Int), Value.pointer (some ⟨wo.heap.size + 1, 0, none⟩), Value.int IntKind.i64 4, Value.bool false, Value.bool false, undef, undef, undef, undef, undef, undef, undef, undef, undef, undef, undef, undef, undef, undef, undef, undef, undef, undef, undef, undef, undef, undef, undef, undef, undef, undef, undef, undef, undef, undef, undef, undef, undef, undef, undef, undef, undef, undef, undef, undef, undef, undef, undef, undef, undef, undef, Value.bool false, Value.bool false, undef, undef, undef, undef, undef, undef, undef, undef, undef, undef, undef, undef, undef, undef, undef, undef, undef, undef, undef, undef, Value.bool false, Value.bool false, undef, undef, undef, undef, undef, undef, undef, undef, undef, undef, undef, Value.bool true, Value.bool true, t 0, t 1, t 2, t 3, t 4, t 5, t 6, t 7, t 8, t 9, t 10, undef], []⟩) (fun f t W => StK S w4 (wo.heap.size + 1 + 1) l8 (.slice ap d cp) f t W) (fun j => match j with | 0 => undef | 1 => undef | 2 => undef | 3 => undef | 4 => undef | 5 => undef | 6 => undef | 7 => undef | 8 => undef | 9 => undef | 10 => undef | _ => undef) (by kernel_rfl) (by rfl) (by rfl) (by kernel_rfl) rfl ?i0 ?step ?fin
    case i0 =>
      exact StK.start _ _ _ _ _ _
    case step =>
      intro j0 hj0 f t W hfi hwt hk2 hI
      have h11 := hI.notlast hj0 hfi
      obtain ⟨hlow, -⟩ := hI.1 h11
      have s0 := cell_of_below hlow p0 (by omega)
      have s1 := cell_of_below hlow p1 (by omega)
      have s3 := cell_of_below hlow k3 (by omega)
      obtain rfl | rfl | rfl | rfl | rfl | rfl | rfl | rfl | rfl | rfl | rfl | rfl : j0 = 0 ∨ j0 = 1 ∨ j0 = 2 ∨ j0 = 3 ∨ j0 = 4 ∨ j0 = 5 ∨ j0 = 6 ∨ j0 = 7 ∨ j0 = 8 ∨ j0 = 9 ∨ j0 = 10 ∨ j0 = 11 := by omega
      · -- operation 0
        clear hlow h11
        replace hI := Lib.hid hI
        replace hk2 := Lib.hid hk2
        clear hwt
        refine wpOp_step rfl (fun K hK => ?_)
        go_simp
        exact hK _ _ ⟨_, by simp [updT], hk2.out.at_ rfl, hI.out.same _ _ (by decide) (by decide) (by decide)⟩
      · -- operation 1
        have e0 : t 0 = .pointer (some ⟨wo.heap.size, 0, none⟩) := hk2 0 _ (hwt 0 (by kernel_rfl)) rfl
        clear hlow h11
        replace hI := Lib.hid hI
        replace hk2 := Lib.hid hk2
        clear hwt
        refine wpOp_step rfl (fun K hK => ?_)
        go_simp
        exact hK _ _ ⟨_, by simp [updT, e0], hk2.out.at_ rfl, hI.out.same _ _ (by decide) (by decide) (by decide)⟩
      · -- operation 2
        clear hlow h11
        replace hI := Lib.hid hI
        replace hk2 := Lib.hid hk2
        clear hwt
        refine wpOp_step rfl (fun K hK => ?_)
        go_simp
        exact hK _ _ ⟨_, by simp [updT], hk2.out.at_ rfl, hI.out.same _ _ (by decide) (by decide) (by decide)⟩
      · -- operation 3
        have e2 : t 2 = .pointer (some ⟨wo.heap.size, 1, none⟩) := hk2 2 _ (hwt 2 (by kernel_rfl)) rfl
        clear hlow h11
        replace hI := Lib.hid hI
        replace hk2 := Lib.hid hk2
        clear hwt
        refine wpOp_step rfl (fun K hK => ?_)
        go_simp
        exact hK _ _ ⟨_, by simp [updT, e2], hk2.out.at_ rfl, hI.out.same _ _ (by decide) (by decide) (by decide)⟩
      · -- operation 4
        clear hlow h11
        replace hI := Lib.hid hI
        replace hk2 := Lib.hid hk2
        clear hwt
        refine wpOp_step rfl (fun K hK => ?_)
        go_simp
        exact hK _ _ ⟨_, by simp [updT], hk2.out.at_ rfl, hI.out.same _ _ (by decide) (by decide) (by decide)⟩
      · -- operation 5
        have e4 : t 4 = .pointer (some ⟨wo.heap.size + 1, 3, none⟩) := hk2 4 _ (hwt 4 (by kernel_rfl)) rfl
        clear hlow h11
        replace hI := Lib.hid hI
        replace hk2 := Lib.hid hk2
        clear hwt
        refine wpOp_step rfl (fun K hK => ?_)
        go_simp
        exact hK _ _ ⟨_, by simp [updT, e4], hk2.out.at_ rfl, hI.out.same _ _ (by decide) (by decide) (by decide)⟩
      · -- operation 6
        have e5 : t 5 = .string tt := hk2 5 _ (hwt 5 (by kernel_rfl)) rfl
        clear hlow h11
        replace hI := Lib.hid hI
        replace hk2 := Lib.hid hk2
        clear hwt
        refine wpOp_step rfl (fun K hK => ?_)
        go_simp
        exact hK _ _ ⟨_, by simp [updT, e5], hk2.out.at_ rfl, hI.out.same _ _ (by decide) (by decide) (by decide)⟩
      · -- operation 7
        have e1 : t 1 = .slice a L.length cap := hk2 1 _ (hwt 1 (by kernel_rfl)) rfl
        have e3 : t 3 = .slice ap d cp := hk2 3 _ (hwt 3 (by kernel_rfl)) rfl
        have e6 : t 6 = .agg #[.int .i64 3, .string ⟨#[]⟩, .slice none 0 0, .string tt, .slice none 0 0] := hk2 6 _ (hwt 6 (by kernel_rfl)) rfl
        have hC := Lib.hid (hcall.out W hlow)
        replace h11 := Lib.hid h11
        replace hfi := Lib.hid hfi
        clear hlow
        replace hk2 := Lib.hid hk2
        replace hI := Lib.hid hI
        clear hwt
        refine wpOp_step rfl (fun K hK => ?_)
        go_simp
        refine hC.out.mono ?_
        rintro e w5 ⟨v5, rfl, hr5, hb5⟩
        exact hK _ _ ⟨v5, by simp [updT, e1, e3, e6], hk2.out.free rfl, hI.out.call h11.out hfi.out hr5 hb5⟩
      · -- operation 8
        clear hlow h11
        replace hI := Lib.hid hI
        replace hk2 := Lib.hid hk2
        clear hwt
        refine wpOp_step rfl (fun K hK => ?_)
        go_simp
        exact hK _ _ ⟨_, by simp [updT], hk2.out.at_ rfl, hI.out.same _ _ (by decide) (by decide) (by decide)⟩
      · -- operation 9
        have e8 : t 8 = .pointer (some ⟨wo.heap.size, 1, none⟩) := hk2 8 _ (hwt 8 (by kernel_rfl)) rfl
        clear hlow h11
        replace hI := Lib.hid hI
        replace hk2 := Lib.hid hk2
        clear hwt
        refine wpOp_step rfl (fun K hK => ?_)
        go_simp
        exact hK _ _ ⟨_, by simp [updT, e8], hk2.out.at_ rfl, hI.out.same _ _ (by decide) (by decide) (by decide)⟩
      · -- operation 10
        have e9 : t 9 = .slice ap d cp := hk2 9 _ (hwt 9 (by kernel_rfl)) rfl
        obtain ⟨a8, c8, e7⟩ := ((hI.1 h11).2 (hwt 7 (by kernel_rfl))).slice
        have hm := hI.made (hwt 7 (by kernel_rfl))
        rw [e7] at hm
        replace hm := Lib.hid hm
        clear hlow h11
        replace hk2 := Lib.hid hk2
        replace hI := Lib.hid hI
        clear hwt
        refine wpOp_step rfl (fun K hK => ?_)
        go_simp
        exact hK _ _ ⟨.agg #[.slice a8 l8.length c8, .slice ap d cp], by simp [updT, e7, e9], hk2.out.free rfl, hm.out⟩
      · -- operation 11
        have hall : ∀ j, j < 11 → f j = true := fun j hj => by
          rcases (by omega : j = 0 ∨ j = 1 ∨ j = 2 ∨ j = 3 ∨ j = 4 ∨ j = 5 ∨ j = 6 ∨ j = 7 ∨ j = 8 ∨ j = 9 ∨ j = 10) with rfl | rfl | rfl | rfl | rfl | rfl | rfl | rfl | rfl | rfl | rfl <;> exact hwt _ (by kernel_rfl)
        obtain ⟨a8, c8, e8⟩ := ((hI.1 h11).2 (hall 7 (by decide))).slice
        have e10 := (hI.2.1 (hall 10 (by decide))).2
        have hput := hI.put h11 hall undef
        rw [e8] at hput e10
        have bx := bxR.out.below hlow bxR.out.lt
        have g0 := bx.cell (i := 0) rfl
        have g1 := bx.cell (i := 1) rfl
        have x0 := bx.free 0
        have x1 := bx.free 1
        replace hput := Lib.hid hput
        replace bx := Lib.hid bx
        clear hall hlow h11
        replace hk2 := Lib.hid hk2
        replace hI := Lib.hid hI
        clear hwt
        refine wpOp_step rfl (fun K hK => ?_)
        go_simp
        exact hK _ _ ⟨undef, by simp [updT, e8, e10, ], hk2.out.free rfl, hput.out⟩
    case fin =>
      intro f t W hall hk2 hI
      have e10 := (hI.2.1 (hall 10 (by omega))).2
      obtain ⟨_, W0, hb0, hr8, rfl⟩ := hI.2.2 (hall 11 (by omega))
      clear hk2 hall hI
      obtain ⟨a8, c8, e8⟩ := hr8.slice
      rw [e8] at hr8 e10 ⊢
      rw [e10]
      clear e10 e8
      have bx2 := (bxR.out.below hb0 bxR.out.lt).two (.slice a8 l8.length c8) (.slice ap d cp)
      have q0 := bx2.cell (i := 0) rfl
      have q1 := bx2.cell (i := 1) rfl
      have hbf := Lib.hid (two_below (bt hbo hb0) (g := wo.heap.size + 1 + 1) (.slice a8 l8.length c8) (.slice ap d cp) (by omega))
      have hsz : ((W0.setCell ⟨wo.heap.size + 1 + 1, 0, none⟩ (.slice a8 l8.length c8)).setCell ⟨wo.heap.size + 1 + 1, 1, none⟩ (.slice ap d cp)).heap.size = W0.heap.size := by simp [World.setCell]
      have hfar : ∀ c, c ≠ wo.heap.size + 1 + 1 → ((W0.setCell ⟨wo.heap.size + 1 + 1, 0, none⟩ (.slice a8 l8.length c8)).setCell ⟨wo.heap.size + 1 + 1, 1, none⟩ (.slice ap d cp)).heap[c]? = W0.heap[c]? := fun c hc => by
        rw [Below.heap_setCell _ _ _ _ (by simpa using hc), Below.heap_setCell _ _ _ _ (by simpa using hc)]
      have hz8 := hb0.size
      have hk8 : Hid (RepN (fun b => S b ∨ (wo.heap.size ≤ b ∧ b < ((W0.setCell ⟨wo.heap.size + 1 + 1, 0, none⟩ (.slice a8 l8.length c8)).setCell ⟨wo.heap.size + 1 + 1, 1, none⟩ (.slice ap d cp)).heap.size)) ((W0.setCell ⟨wo.heap.size + 1 + 1, 0, none⟩ (.slice a8 l8.length c8)).setCell ⟨wo.heap.size + 1 + 1, 1, none⟩ (.slice ap d cp)) (.slice a8 l8.length c8) l8) := by
        refine (hr8.keep (fun c hc => hfar c ?_)).mono (fun c hc => ?_)
        · rcases hc with hc | hc
          · have := hS c hc
            omega
          · omega
        · rcases hc with hc | hc
          · exact Or.inl hc
          · exact Or.inr ⟨by omega, by rw [hsz]; exact hc.2⟩
      clear bx2 hr8 hsz hfar hb0
      try dsimp only
      go_wp2_with fail
      refine bodyPost_ret (v := .agg #[.slice a8 l8.length c8, .slice ap d cp]) (by simp [results, Try.results8, go_sem, q0, q1]) rfl ?_
      rw [hs1.out]
      refine ⟨_, _, rfl, hk8.out, ?_, hbf.out⟩
      have hpp : M7.pathN d l8 = M7.pathN d L := by rw [← hl8.out]; exact M7.put_path _ hok.out
      show Ints _ _ _ (M7.pathN d l8)
      rw [hpp]
      exact Row.mono (hp.out.below hS hbf.out) (fun b hb => Or.inl hb)
  by_cases hk1 : kt = 1
  · subst hk1
    have hs1 : Hid (s' = ⟨M7.putN (M7.closeAt O nt d) (.mk 1 nt att ⟨#[]⟩ []) L, if M3.voidB nt.data.toList then M7.closeAt O nt d else M7.closeAt O nt d + 1⟩) := by
      show _ = _
      rw [← hs'.out, ← hO.out]; rfl
    obtain ⟨wf, hwf⟩ : ∃ W, Hid (W = w4) := ⟨_, rfl⟩
    replace bxB := Lib.hid bxB
    replace bxT := Lib.hid bxT
    replace bxR := Lib.hid bxR
    replace hbo := Lib.hid hbo
    clear hs' hwf hk3
    have k1' := k1
    go_upto_block 1 with (fail)
    obtain ⟨cn, hcn⟩ : ∃ cn, Hid (M7.closeAt O nt d = cn) := ⟨_, rfl⟩
    rw [hcn.out] at hs1
    go_cut [6] (fun s6 wx => s6 = .int .i64 (cn : Int) ∧ Below w4.heap.size w4 wx)
    case first =>
      go_wp2_with fail
      clear p0 p1 k0 k1 k2 k3 r0 r1 f0 f1
      go_loopw [6] (fun u6 wr => ∃ k : Nat, k ≤ d ∧ u6 = .int .i64 (k : Int) ∧ cn = M7.closeAt O nt k ∧ Below w4.heap.size w4 wr) (fun u6 _ => (intOf u6).toNat)
      case atStart => exact ⟨d, Nat.le_refl _, rfl, hcn.out.symm, Below.refl _ _⟩
      case round =>
        obtain ⟨k, hk, rfl, hke, hb⟩ := hrel
        have hz := hb.size
        obtain ⟨wr', rfl⟩ : ∃ W : World, W = wr := ⟨_, rfl⟩
        cases k with
        | zero =>
          have hn0 : cn = 0 := hke
          subst hn0
          clear hke hcn hs1 hz
          go_upto_region 5 with (fail)
          go_quiet (fail)
          have hbq := below_drewN hb nq
          go_wp2_with fail
          go_meet
          case rel => exact ⟨rfl, hbq⟩
        | succ i =>
          have hio : i < O.length := by omega
          obtain ⟨bo, oo, eo, hob, c0⟩ := Row.atS hto.out i hio
          subst eo
          have hI0 : (0 : Int) ≤ (i : Int) := by omega
          have hI1 : (i : Int) < (d : Int) := by omega
          have hgt : (0 : Int) < (i : Int) + 1 := by omega
          have hwi : IntKind.i64.wrap (i : Int) = (i : Int) := IntWalk.i64_in _ ⟨by omega, by omega⟩
          have hoi : O.getD i ⟨#[]⟩ = O[i] := by simp [List.getD, hio]
          rw [M7.closeAt, hoi] at hke
          generalize O[i] = oi at *
          have hCl := Lib.hid (fun W => ref06Closes oi nt W)
          generalize M6.closesB oi.data.toList nt.data.toList = cb at *
          replace hke := Lib.hid hke
          clear hoi
          go_upto_region 5 with (fail)
          refine wp_region_known (n := 12) ([some (.int .i64 ((i + 1 : Nat) : Int)), some (.bool true), some (.bool true), some (Value.slice (some ⟨bo, oo, none⟩) d co), some (.int .i64 ((i + 1 : Nat) : Int)), some (.int .i64 (i : Int)), some (.pointer (some ⟨bo, oo + i, none⟩)), some (.string oi), some (.pointer (some ⟨wo.heap.size + 1, 1, none⟩)), some (.string nt), some (.bool cb), some (.bool cb)] : List (Option Value)) (fun t => ⟨#[Value.agg #[Value.slice a L.length cap, Value.slice ap d cp], Value.agg #[Value.int IntKind.i64 1, Value.string nt, Value.slice at_ att.length ct, Value.string tt], Value.pointer (some ⟨wo.heap.size, 0, none⟩), Value.pointer (some ⟨wo.heap.size + 1, 0, none⟩), Value.pointer (some ⟨wo.heap.size + 1 + 1, 0, none⟩), Value.slice (some ⟨bo, oo, none⟩) d co, .int .i64 ((i + 1 : Nat) : Int), undef, undef, undef, undef, undef, undef, Value.agg #[Value.slice a L.length cap, Value.slice ap d cp], Value.slice (some ⟨bo, oo, none⟩) d co, Value.slice (some ⟨bo, oo, none⟩) d co, Value.int IntKind.i64 (d : Int), Value.pointer (some ⟨wo.heap.size + 1, 0, none⟩), Value.int IntKind.i64 1, Value.bool true, Value.bool true, t 0, t 1, t 2, t 3, t 4, t 5, t 6, t 7, t 8, t 9, t 10, t 11, u33, u34, undef, undef, undef, undef, undef, undef, undef, undef, undef, undef, undef, undef, undef, undef, undef, undef, undef, undef, undef, undef, undef, undef, undef, undef, undef, undef, undef, undef, undef, undef, undef, undef, undef, undef, undef, undef, undef, undef, undef, undef, undef, undef, undef, undef, undef, undef, undef, undef, undef, undef, undef, undef, undef, undef, undef, undef, undef, undef, undef, undef, undef, undef, undef, undef, undef, undef, undef, undef, undef, undef, undef, undef, undef, undef, undef, undef, undef, undef, undef, undef, undef], []⟩) (fun f t W => Below w4.heap.size w4 W) (fun j => match j with | 0 => u21 | 1 => u22 | 2 => u23 | 3 => u24 | 4 => u25 | 5 => u26 | 6 => u27 | 7 => u28 | 8 => u29 | 9 => u30 | 10 => u31 | 11 => u32 | _ => undef) (by kernel_rfl) (by rfl) (by rfl) (by kernel_rfl) rfl ?i0 ?step ?fin
          case i0 =>
            exact hb.drew
          case step =>
            intro j0 hj0 f t W hfi hwt hk2 hI
            have s1 := cell_of_below hI k1' (by omega)
            have s4 := cell_of_below hI c0 (by omega)
            obtain rfl | rfl | rfl | rfl | rfl | rfl | rfl | rfl | rfl | rfl | rfl | rfl : j0 = 0 ∨ j0 = 1 ∨ j0 = 2 ∨ j0 = 3 ∨ j0 = 4 ∨ j0 = 5 ∨ j0 = 6 ∨ j0 = 7 ∨ j0 = 8 ∨ j0 = 9 ∨ j0 = 10 ∨ j0 = 11 := by omega
            · -- operation 0
              replace hI := Lib.hid hI
              replace hk2 := Lib.hid hk2
              clear hwt
              refine wpOp_step rfl (fun K hK => ?_)
              go_simp
              exact hK _ _ ⟨_, by simp [updT], hk2.out.at_ rfl, hI.out⟩
            · -- operation 1
              have e0 : t 0 = .int .i64 ((i + 1 : Nat) : Int) := hk2 0 _ (hwt 0 (by kernel_rfl)) rfl
              replace hI := Lib.hid hI
              replace hk2 := Lib.hid hk2
              clear hwt
              refine wpOp_step rfl (fun K hK => ?_)
              go_simp
              exact hK _ _ ⟨_, by simp [updT, e0], hk2.out.at_ rfl, hI.out⟩
            · -- operation 2
              have e1 : t 1 = .bool true := hk2 1 _ (hwt 1 (by kernel_rfl)) rfl
              replace hI := Lib.hid hI
              replace hk2 := Lib.hid hk2
              clear hwt
              refine wpOp_step rfl (fun K hK => ?_)
              go_simp
              exact hK _ _ ⟨_, by simp [updT, e1], hk2.out.at_ rfl, hI.out⟩
            · -- operation 3
              have e2 : t 2 = .bool true := hk2 2 _ (hwt 2 (by kernel_rfl)) rfl
              replace hI := Lib.hid hI
              replace hk2 := Lib.hid hk2
              clear hwt
              refine wpOp_step rfl (fun K hK => ?_)
              go_simp
              exact hK _ _ ⟨_, by simp [updT, e2], hk2.out.at_ rfl, hI.out⟩
            · -- operation 4
              have e2 : t 2 = .bool true := hk2 2 _ (hwt 2 (by kernel_rfl)) rfl
              replace hI := Lib.hid hI
              replace hk2 := Lib.hid hk2
              clear hwt
              refine wpOp_step rfl (fun K hK => ?_)
              go_simp
              exact hK _ _ ⟨_, by simp [updT, e2], hk2.out.at_ rfl, hI.out⟩
            · -- operation 5
              have e2 : t 2 = .bool true := hk2 2 _ (hwt 2 (by kernel_rfl)) rfl
              have e4 : t 4 = .int .i64 ((i + 1 : Nat) : Int) := hk2 4 _ (hwt 4 (by kernel_rfl)) rfl
              replace hI := Lib.hid hI
              replace hk2 := Lib.hid hk2
              clear hwt
              refine wpOp_step rfl (fun K hK => ?_)
              go_simp
              exact hK _ _ ⟨_, by simp [updT, e2, e4], hk2.out.at_ rfl, hI.out⟩
            · -- operation 6
              have e2 : t 2 = .bool true := hk2 2 _ (hwt 2 (by kernel_rfl)) rfl
              have e3 : t 3 = Value.slice (some ⟨bo, oo, none⟩) d co := hk2 3 _ (hwt 3 (by kernel_rfl)) rfl
              have e5 : t 5 = .int .i64 (i : Int) := hk2 5 _ (hwt 5 (by kernel_rfl)) rfl
              replace hI := Lib.hid hI
              replace hk2 := Lib.hid hk2
              clear hwt
              refine wpOp_step rfl (fun K hK => ?_)
              go_simp
              exact hK _ _ ⟨_, by simp [updT, e2, e3, e5], hk2.out.at_ rfl, hI.out⟩
            · -- operation 7
              have e2 : t 2 = .bool true := hk2 2 _ (hwt 2 (by kernel_rfl)) rfl
              have e6 : t 6 = .pointer (some ⟨bo, oo + i, none⟩) := hk2 6 _ (hwt 6 (by kernel_rfl)) rfl
              replace hI := Lib.hid hI
              replace hk2 := Lib.hid hk2
              clear hwt
              refine wpOp_step rfl (fun K hK => ?_)
              go_simp
              exact hK _ _ ⟨_, by simp [updT, e2, e6], hk2.out.at_ rfl, hI.out⟩
            · -- operation 8
              have e2 : t 2 = .bool true := hk2 2 _ (hwt 2 (by kernel_rfl)) rfl
              replace hI := Lib.hid hI
              replace hk2 := Lib.hid hk2
              clear hwt
              refine wpOp_step rfl (fun K hK => ?_)
              go_simp
              exact hK _ _ ⟨_, by simp [updT, e2], hk2.out.at_ rfl, hI.out⟩
            · -- operation 9
              have e2 : t 2 = .bool true := hk2 2 _ (hwt 2 (by kernel_rfl)) rfl
              have e8 : t 8 = .pointer (some ⟨wo.heap.size + 1, 1, none⟩) := hk2 8 _ (hwt 8 (by kernel_rfl)) rfl
              replace hI := Lib.hid hI
              replace hk2 := Lib.hid hk2
              clear hwt
              refine wpOp_step rfl (fun K hK => ?_)
              go_simp
              exact hK _ _ ⟨_, by simp [updT, e2, e8], hk2.out.at_ rfl, hI.out⟩
            · -- operation 10
              have e2 : t 2 = .bool true := hk2 2 _ (hwt 2 (by kernel_rfl)) rfl
              have e7 : t 7 = .string oi := hk2 7 _ (hwt 7 (by kernel_rfl)) rfl
              have e9 : t 9 = .string nt := hk2 9 _ (hwt 9 (by kernel_rfl)) rfl
              replace hk2 := Lib.hid hk2
              replace hI := Lib.hid hI
              clear hwt
              refine wpOp_step rfl (fun K hK => ?_)
              go_simp
              refine (hCl.out _).mono ?_
              rintro e w5 ⟨rfl, hb5⟩
              exact hK _ _ ⟨_, by simp [updT, e2, e7, e9], hk2.out.at_ rfl, hI.out.trans (hb5.mono hI.out.size)⟩
            · -- operation 11
              have e2 : t 2 = .bool true := hk2 2 _ (hwt 2 (by kernel_rfl)) rfl
              have e10 : t 10 = .bool cb := hk2 10 _ (hwt 10 (by kernel_rfl)) rfl
              replace hI := Lib.hid hI
              replace hk2 := Lib.hid hk2
              clear hwt
              refine wpOp_step rfl (fun K hK => ?_)
              go_simp
              exact hK _ _ ⟨_, by simp [updT, e2, e10], hk2.out.at_ rfl, hI.out⟩
          case fin =>
            intro f t W hall hk2 hI
            have e11 := hk2 11 _ (hall 11 (by omega)) rfl
            clear hk2 hall
            try dsimp only
            rw [e11]
            clear e11
            cases cb
            · go_wp2_with fail
              go_meet
              case rel => exact ⟨by rw [hke.out]; rfl, hI⟩
            · go_wp2_with fail
              go_roundw
              case rel => exact ⟨i, by omega, by go_num, by rw [hke.out]; rfl, hI⟩
              case measure => simp [intOf]

    case rest =>
      obtain ⟨e6, hb⟩ := hcut
      subst e6
      rename World => wx
      have hcd : cn ≤ d := by rw [← hcn.out]; exact M7.closeAt_le _ _ _
      have bB := bxB.out.below hb bxB.out.lt
      have bT := bxT.out.below hb bxT.out.lt
      have bR := Lib.hid (bxR.out.below hb bxR.out.lt)
      have hbX : Below wo.heap.size wo wx := bt hbo.out hb
      have hoc := M7.okD_pre hok.out hcd
      have hplc : (M7.pathN cn L).length = cn := M7.pathN_len hoc
      have hpc : Ints S wx (.slice ap cn cp) (M7.pathN cn L) := by
        rw [M7.pathN_take hok.out hcd]; exact (hp.out.below hS hbX).take cn (by omega)
      have hSx : ∀ b, S b → b < wx.heap.size := fun b h => Nat.lt_of_lt_of_le (hS b h) hbX.size
      have hrx := hr.out.below hS hbX
      have hcnt := Lib.hid (ref07count S (.slice a L.length cap) (.slice ap cn cp) L cn wx hSx hrx hoc hpc)
      have hput := ref07put cn S (.slice a L.length cap) (.slice ap cn cp) L (.mk 1 nt att ⟨#[]⟩ []) (.slice at_ att.length ct) (.slice none 0 0) wx hoc (by omega) hw (by show dtN L + 0 ≤ _; omega) hSx hrx hpc ⟨ha.out.below hS hbX, RepN.nil _ _⟩
      have hpp : M7.pathN cn (M7.putN cn (.mk 1 nt att ⟨#[]⟩ []) L) = M7.pathN cn L := M7.put_path _ hoc
      have hpo : M7.pathN (cn + 1) (M7.putN cn (.mk 1 nt att ⟨#[]⟩ []) L) = M7.pathN cn L ++ [(M7.levelN cn L).length] := (M7.put_open _ hoc rfl).2.2
      obtain ⟨l8, hl8⟩ : ∃ l8, M7.putN cn (.mk 1 nt att ⟨#[]⟩ []) L = l8 := ⟨_, rfl⟩
      rw [hl8] at hs1 hput hpp hpo
      replace hput := Lib.hid hput
      have hq : ap = none → cp = 0 := by
        obtain ⟨_, a', c', e, h2, h3, h4, _⟩ := hp.out
        simp only [Value.slice.injEq] at e
        obtain ⟨rfl, -, rfl⟩ := e
        exact h4
      have p0 := bB.cell (i := 0) rfl
      have p1 := bB.cell (i := 1) rfl
      have k1 := bT.cell (i := 1) rfl
      have k2 := bT.cell (i := 2) rfl
      have hz4x := hb.size
      generalize hpa : M7.pathN cn L = pa at *
      have hlvb : (M7.levelN cn L).length ≤ 1000000 := Nat.le_trans (level_le cn L) (by omega)
      generalize hlv : (M7.levelN cn L).length = lv at *
      replace hpc := Lib.hid hpc
      replace hrx := Lib.hid hrx
      replace bB := Lib.hid bB
      replace bT := Lib.hid bT
      replace hpp := Lib.hid hpp
      replace hpo := Lib.hid hpo
      replace hs1 := Lib.hid hs1.out
      clear hl8 hpa hlv hoc
      go_upto_region 7 with (fail)
      go_cut [7] from 35 to 38 (fun s7 wy => s7 = .slice ap cn cp ∧ wx = wy)
      case first =>
        cases ap with
        | none =>
          obtain rfl := hq rfl
          obtain rfl : cn = 0 := by omega
          go_wp2_with fail
          go_meet
          case rel => exact ⟨rfl, rfl⟩
        | some pA =>
          have hcc : (cn : Int) ≤ (cp : Int) := by omega
          go_wp2_with fail
          go_meet
          case rel => exact ⟨rfl, rfl⟩
      case rest =>
        obtain ⟨rfl, rfl⟩ := hcut
        go_upto_region 9 with (go_at_call 18; refine hcnt.out.mono ?_; rintro e w' ⟨rfl, rfl⟩)
        go_upto_region 10 with (go_at_call 19; refine hput.out.mono ?_; rintro e w5 ⟨v5, rfl, hr5, hb5⟩)
        obtain ⟨a5, c5, rfl⟩ := hr5.slice
        have hb05 : Below wo.heap.size wo w5 := bt hbX hb5
        have hz5 := hb5.size
        have hpc5 : Ints S w5 (.slice ap cn cp) pa := Row.keep hpc.out (fun b h => hb5.block b (hSx b h))
        have hrow5 : Row S w5 1 (.slice ap cn cp) cn (pa.map fun k : Nat => Value.int .i64 (k : Int)) := by
          have h := hpc5
          unfold Ints at h
          rwa [hplc] at h
        have hone5 : ∀ u ∈ (pa.map fun k : Nat => Value.int .i64 (k : Int)), u.oneCell' = true := by
          intro u hu
          obtain ⟨k, -, rfl⟩ := List.mem_map.1 hu
          rfl
        have hnil : w5.ownsRow w5.heap.size 3 1 (.slice none 0 0) 0 [] := World.ownsRow_nil _ _ _ _
        have bR5 := bR.out.below hb5 bR.out.lt
        have bT5 := bT.out.below hb5 bT.out.lt
        have hfin : Hid (∀ (wz : World) (az : Option Addr) (nz cz : Nat) (l' : List Nat), Below w5.heap.size w5 wz → wz.ownsRow w5.heap.size 3 1 (.slice az nz cz) nz (l'.map fun k : Nat => Value.int .i64 (k : Int)) → nz = l'.length → l' = M7.pathN s'.d s'.L →
            Box wz (wo.heap.size + 1 + 1) 29 [.slice none 0 0, .slice none 0 0] ∧
            (∀ W, W = (wz.setCell ⟨wo.heap.size + 1 + 1, 0, none⟩ (.slice a5 l8.length c5)).setCell ⟨wo.heap.size + 1 + 1, 1, none⟩ (.slice az nz cz) → Box W (wo.heap.size + 1 + 1) 29 [.slice a5 l8.length c5, .slice az nz cz] ∧ ShrB S s' wo (.returned (.agg #[.slice a5 l8.length c5, .slice az nz cz])) W)) := by
          intro wz az nz cz l' hbz hown hnz hl'
          have bRz := bR5.below hbz (by have := bR5.lt; omega)
          refine ⟨bRz, ?_⟩
          rintro W rfl
          refine ⟨bRz.two _ _, _, _, rfl, ?_, ?_, two_below (bt hb05 hbz) _ _ (by omega)⟩
          · rw [hs1.out]
            have hlt5 := bR5.lt
            have hzz := hbz.size
            have hsz : ((wz.setCell ⟨wo.heap.size + 1 + 1, 0, none⟩ (.slice a5 l8.length c5)).setCell ⟨wo.heap.size + 1 + 1, 1, none⟩ (.slice az nz cz)).heap.size = wz.heap.size := by simp [World.setCell]
            refine (hr5.keep (fun c hc => ?_)).mono (fun c hc => ?_)
            · have hne : c ≠ wo.heap.size + 1 + 1 ∧ c < w5.heap.size := by
                rcases hc with hc | hc
                · have := hS c hc
                  exact ⟨by omega, by omega⟩
                · exact ⟨by omega, hc.2⟩
              rw [Below.heap_setCell _ _ _ _ (by simpa using hne.1), Below.heap_setCell _ _ _ _ (by simpa using hne.1), hbz.block c hne.2]
            · rcases hc with hc | hc
              · exact Or.inl hc
              · exact Or.inr ⟨by have := hbX.size; omega, by rw [hsz]; omega⟩
          · rw [← hl']
            have hlt5 := bR5.lt
            have hzz := hbz.size
            have hsz : ((wz.setCell ⟨wo.heap.size + 1 + 1, 0, none⟩ (.slice a5 l8.length c5)).setCell ⟨wo.heap.size + 1 + 1, 1, none⟩ (.slice az nz cz)).heap.size = wz.heap.size := by simp [World.setCell]
            have h1 := Row.own (own_keep hown (w' := (wz.setCell ⟨wo.heap.size + 1 + 1, 0, none⟩ (.slice a5 l8.length c5)).setCell ⟨wo.heap.size + 1 + 1, 1, none⟩ (.slice az nz cz)) (fun g hg => by
              have hg1 := (hown.lt g hg).1
              have hg2 : g ≠ wo.heap.size + 1 + 1 := by omega
              rw [Below.heap_setCell _ _ _ _ (by simpa using hg2), Below.heap_setCell _ _ _ _ (by simpa using hg2)])) (S := fun b => S b ∨ (wo.heap.size ≤ b ∧ b < ((wz.setCell ⟨wo.heap.size + 1 + 1, 0, none⟩ (.slice a5 l8.length c5)).setCell ⟨wo.heap.size + 1 + 1, 1, none⟩ (.slice az nz cz)).heap.size)) (fun g hg => Or.inr ⟨by have := (hown.lt g hg).1; omega, by rw [hsz]; exact (hown.lt g hg).2⟩)
            unfold Ints
            rw [← hnz]
            exact h1
        have k1 := bT5.cell (i := 1) rfl
        clear hcnt hput hr5 p0 p1 k1' k2 hrx
        have h63 : 0 + cn ≤ 9223372036854775807 := by omega
        have hby : (0 + cn) * 8 ≤ 140737488355328 := by omega
        go_upto_region 12 with (at_builtin; refine wpList_spread w5 1 S rfl _ _ 27 3 rfl w5.heap.size Try.underlying27 infoInt7 rfl (by decide) _ 0 [] rfl hnil _ cn _ rfl hrow5 hone5 h63 ?_ (Nat.le_refl _) ?_; exact hby; intro u7 w6 hown6 hgrow6)
        have hb56 : Below w5.heap.size w5 w6 := below_own (Below.refl _ _) hnil hgrow6 (Nat.le_refl _) (Nat.le_refl _)
        rw [Nat.zero_add, List.nil_append] at hown6
        obtain ⟨a7, c7, rfl⟩ := own_slice hown6
        have hz6 := hb56.size
        have bT6 := bT5.below hb56 bT5.lt
        replace k1 := bT6.cell (i := 1) rfl
        clear hgrow6
        have hV : Hid (Calls Try.prog 20 #[.string nt] w6 fun e w' => e = .returned (.bool (M3.voidB nt.data.toList)) ∧ w6 = w') := (ref03Void nt w6).mono fun _ _ h => ⟨h.1, h.2.symm⟩
        generalize M3.voidB nt.data.toList = vb at *
        go_upto_region 13 with (go_at_call 20; refine hV.out.mono ?_; rintro e w' ⟨rfl, rfl⟩)
        clear hV bT6 k1 bT5 hrow5 hone5 hpc5 hnil
        cases vb
        · have h63' : cn + 1 ≤ 9223372036854775807 := by omega
          have hby' : (cn + 1) * 8 ≤ 140737488355328 := by omega
          have hone1 : ∀ u ∈ ([.int .i64 (lv : Int)] : List Value), u.oneCell' = true := by simp [Value.oneCell']
          go_upto_region 15 with (at_builtin; refine wpList_appK w6 [.int .i64 (lv : Int)] 1 rfl _ _ 27 3 rfl w5.heap.size Try.underlying27 infoInt7 rfl (by decide) _ cn _ rfl hown6 _ rfl rfl rfl hone1 h63' ?_ hz6 ?_; exact hby'; intro gq cq w7 hown7 hgrow7 hat7)
          have hb57 : Below w5.heap.size w5 w7 := below_own hb56 hown6 hgrow7 hz6 (Nat.le_refl _)
          obtain ⟨bRz, hW⟩ := hfin.out w7 (some ⟨gq, 0, none⟩) (cn + 1) cq (pa ++ [lv]) hb57 (by rw [List.map_append]; exact hown7) (by rw [List.length_append, hplc]; rfl) (by rw [hs1.out]; exact hpo.out.symm)
          obtain ⟨bW, hres⟩ := hW _ rfl
          have r0 := bRz.cell (i := 0) rfl
          have r1 := bRz.cell (i := 1) rfl
          have f0 := bRz.free 0
          have f1 := bRz.free 1
          have q0 := bW.cell (i := 0) rfl
          have q1 := bW.cell (i := 1) rfl
          replace hres := Lib.hid hres
          clear bW hW bRz hown7 hgrow7 hat7 hown6
          go_wp2_with fail
          exact bodyPost_ret (v := .agg #[.slice a5 l8.length c5, .slice (some ⟨gq, 0, none⟩) (cn + 1) cq]) (by simp [results, Try.results8, go_sem, q0, q1]) rfl hres.out
        · obtain ⟨bRz, hW⟩ := hfin.out w6 a7 cn c7 pa hb56 hown6 hplc.symm (by rw [hs1.out]; exact hpp.out.symm)
          obtain ⟨bW, hres⟩ := hW _ rfl
          have r0 := bRz.cell (i := 0) rfl
          have r1 := bRz.cell (i := 1) rfl
          have f0 := bRz.free 0
          have f1 := bRz.free 1
          have q0 := bW.cell (i := 0) rfl
          have q1 := bW.cell (i := 1) rfl
          replace hres := Lib.hid hres
          clear bW hW bRz hown6
          go_wp2_with fail
          exact bodyPost_ret (v := .agg #[.slice a5 l8.length c5, .slice a7 cn c7]) (by simp [results, Try.results8, go_sem, q0, q1]) rfl hres.out
  by_cases hk2 : kt = 2
  · subst hk2
    have hs1 : Hid (s' = match M7.endAt O nt d with | some i => ⟨L, i⟩ | none => ⟨L, d⟩) := by
      show _ = _
      rw [← hs'.out, ← hO.out]; rfl
    obtain ⟨wf, hwf⟩ : ∃ W, Hid (W = w4) := ⟨_, rfl⟩
    replace bxB := Lib.hid bxB
    replace bxT := Lib.hid bxT
    replace bxR := Lib.hid bxR
    replace hbo := Lib.hid hbo
    clear hs'
    go_upto_region 18 with (fail)
    have hbx : Hid (∀ W : World, W.heap = w4.heap → Box W wo.heap.size 29 [.slice a L.length cap, .slice ap d cp] ∧ Box W (wo.heap.size + 1) 33 [.int .i64 2, .string nt, .slice at_ att.length ct, .string tt] ∧ Box W (wo.heap.size + 1 + 1) 29 [.slice none 0 0, .slice none 0 0]) := fun W h => ⟨bxB.out.keep (by rw [h]), bxT.out.keep (by rw [h]), bxR.out.keep (by rw [h])⟩
    clear p0 p1 k0 k1 k2 k3 r0 r1 f0 f1 hwf
    go_loopw [12] (fun u12 wr => ∃ k : Nat, k ≤ d ∧ u12 = .int .i64 ((k : Int) - 1) ∧ M7.endAt O nt d = M7.endAt O nt k ∧ wr.heap = w4.heap ∧ Below wo.heap.size wo wr) (fun u12 _ => (intOf u12 + 1).toNat)
    case atStart => exact ⟨d, Nat.le_refl _, by simp, rfl, rfl, hbo.out⟩
    case round =>
      obtain ⟨k, hk, rfl, hke, hqh, hbr⟩ := hrel
      obtain ⟨wr', rfl⟩ : ∃ W : World, W = wr := ⟨_, rfl⟩
      cases k with
      | zero =>
        have hs2 : Hid (s' = ⟨L, d⟩) := by
          show _ = _
          rw [hs1.out, hke]; rfl
        obtain ⟨bB, bT, bR⟩ := hbx.out wr' hqh
        have p0 := bB.cell (i := 0) rfl
        have p1 := bB.cell (i := 1) rfl
        have k0 := bT.cell (i := 0) rfl
        have r0 := bR.cell (i := 0) rfl
        have r1 := bR.cell (i := 1) rfl
        have f0 := bR.free 0
        have f1 := bR.free 1
        have bx2 := bR.two (.slice a L.length cap) (.slice ap d cp)
        have q0 := bx2.cell (i := 0) rfl
        have q1 := bx2.cell (i := 1) rfl
        have hbf := Lib.hid (two_below hbr (g := wo.heap.size + 1 + 1) (.slice a L.length cap) (.slice ap d cp) (by omega))
        clear bx2 hs1 hke bB bT bR hqh hbr
        go_wp2_with fail
        refine bodyPost_ret (v := .agg #[.slice a L.length cap, .slice ap d cp]) (by simp [results, Try.results8, go_sem, q0, q1]) rfl ?_
        rw [hs2.out]
        refine ⟨_, _, rfl, ?_, ?_, hbf.out⟩
        · exact (hr.out.below hS hbf.out).mono (fun b hb => Or.inl hb)
        · exact Row.mono (hp.out.below hS hbf.out) (fun b hb => Or.inl hb)
      | succ i =>
        have hio : i < O.length := by omega
        obtain ⟨bo, oo, eo, -, c0⟩ := Row.atS (Row.keep hto.out (w' := wr') (fun b _ => by rw [hqh])) i hio
        subst eo
        have hi1 : (((i + 1 : Nat) : Int) - 1) = (i : Int) := by omega
        rw [hi1]
        have hI0 : (0 : Int) ≤ (i : Int) := by omega
        have hI1 : (i : Int) < (d : Int) := by omega
        have hoi : O.getD i ⟨#[]⟩ = O[i] := by simp [List.getD, hio]
        rw [M7.endAt, hoi] at hke
        obtain ⟨bB, bT, bR⟩ := hbx.out wr' hqh
        have k1 := bT.cell (i := 1) rfl
        replace hqh := Lib.hid hqh
        replace hbr := Lib.hid hbr
        clear bB bT bR
        by_cases hE : O[i] = nt
        · rw [if_pos (by rw [hE])] at hke
          have hs2 : Hid (s' = ⟨L, i⟩) := by
            show _ = _
            rw [hs1.out, hke]
          rw [hE] at c0
          obtain ⟨bp, offp, eap, -, -⟩ := Ints.at_ hp.out 0 ((M7.pathN d L)[0]'(by omega)) (List.getElem?_eq_getElem _)
          subst eap
          have hI2 : (i : Int) ≤ (cp : Int) := by omega
          clear hs1 hke hoi hE
          go_upto_region 20 with (fail)
          go_quiet (fail)
          have hbq := below_drewN hbr.out nq
          obtain ⟨wq, hwq⟩ : ∃ wq : World, wq = wr'.drewN nq := ⟨_, rfl⟩
          have hqq : wq.heap = w4.heap := by rw [hwq, ← hqh.out]; rfl
          rw [← hwq] at hbq ⊢
          clear hwq c0 k1
          obtain ⟨bB, bT, bR⟩ := hbx.out wq hqq
          have p0 := bB.cell (i := 0) rfl
          have p1 := bB.cell (i := 1) rfl
          have r0 := bR.cell (i := 0) rfl
          have r1 := bR.cell (i := 1) rfl
          have f0 := bR.free 0
          have f1 := bR.free 1
          replace hqq := Lib.hid hqq
          replace hbq := Lib.hid hbq
          replace bR := Lib.hid bR
          clear bB bT
          go_wp2_with fail
          go_still_tail 7, (by kernel_rfl)
          change wpList _ _ _ _ _ wq.drew
          have bx2 := bR.out.two (.slice a L.length cap) (.slice (some ⟨bp, offp, none⟩) i cp)
          have q0 : ((wq.setCell ⟨wo.heap.size + 1 + 1, 0, none⟩ (.slice a L.length cap)).setCell ⟨wo.heap.size + 1 + 1, 1, none⟩ (.slice (some ⟨bp, offp, none⟩) i cp)).drew.cell? ⟨wo.heap.size + 1 + 1, 0, none⟩ = some (.slice a L.length cap) := bx2.cell (i := 0) rfl
          have q1 : ((wq.setCell ⟨wo.heap.size + 1 + 1, 0, none⟩ (.slice a L.length cap)).setCell ⟨wo.heap.size + 1 + 1, 1, none⟩ (.slice (some ⟨bp, offp, none⟩) i cp)).drew.cell? ⟨wo.heap.size + 1 + 1, 1, none⟩ = some (.slice (some ⟨bp, offp, none⟩) i cp) := bx2.cell (i := 1) rfl
          have hbf := Lib.hid (two_below hbq.out (g := wo.heap.size + 1 + 1) (.slice a L.length cap) (.slice (some ⟨bp, offp, none⟩) i cp) (by omega)).drew
          clear bx2
          go_wp2_with fail
          refine bodyPost_ret (v := .agg #[.slice a L.length cap, .slice (some ⟨bp, offp, none⟩) i cp]) (by simp [results, Try.results8, go_sem, q0, q1]) rfl ?_
          rw [hs2.out]
          refine ⟨_, _, rfl, ?_, ?_, hbf.out⟩
          · exact (hr.out.below hS hbf.out).mono (fun b hb => Or.inl hb)
          · show Ints _ _ _ (M7.pathN i L)
            rw [M7.pathN_take hok.out (by omega)]
            exact Row.mono ((hp.out.take i (by omega)).below hS hbf.out) (fun b hb => Or.inl hb)
        · rw [if_neg (fun h => hE (ByteArray.ext (Array.toList_inj.1 h)))] at hke
          generalize O[i] = oi at *
          have hne : (oi.toList == nt.toList) = false := beq_eq_false_iff_ne.2 (fun h => hE (ByteArray.ext (Array.toList_inj.1 (by rwa [Lib.toList_data, Lib.toList_data] at h))))
          replace hke := Lib.hid hke
          clear hoi
          go_upto_region 20 with (fail)
          go_quiet (fail)
          have hbq := Lib.hid (below_drewN hbr.out nq)
          obtain ⟨wq, hwq⟩ : ∃ wq : World, wq = wr'.drewN nq := ⟨_, rfl⟩
          have hqq : Hid (wq.heap = w4.heap) := by show _ = _; rw [hwq, ← hqh.out]; rfl
          rw [← hwq] at hbq ⊢
          clear hwq
          go_wp2_with fail
          go_roundw
          case rel => exact ⟨i, by omega, by go_num, hke.out, hqq.out, hbq.out⟩
          case measure => simp [intOf]
  have hs1 : Hid (s' = ⟨L, d⟩) := by
    show _ = _
    rw [← hs'.out]
    unfold M7.step
    rw [if_neg hk1, if_neg hk2, if_neg hk3, if_neg hk4]
  have d1 : decide (kt = 1) = false := by simpa using hk1
  have d2 : decide (kt = 2) = false := by simpa using hk2
  have d3 : decide (kt = 3) = false := by simpa using hk3
  have d4 : decide (kt = 4) = false := by simpa using hk4
  have bx2 := bxR.two (.slice a L.length cap) (.slice ap d cp)
  have q0 := bx2.cell (i := 0) rfl
  have q1 := bx2.cell (i := 1) rfl
  replace bxB := Lib.hid bxB
  replace bxT := Lib.hid bxT
  replace bxR := Lib.hid bxR
  have hbf := Lib.hid (two_below hbo (g := wo.heap.size + 1 + 1) (.slice a L.length cap) (.slice ap d cp) (by omega))
  replace hbo := Lib.hid hbo
  clear bx2
  go_wp2_with fail
  refine bodyPost_ret (v := .agg #[.slice a L.length cap, .slice ap d cp]) (by simp [results, Try.results8, go_sem, q0, q1]) rfl ?_
  rw [hs1.out]
  refine ⟨_, _, rfl, ?_, ?_, hbf.out⟩
  · exact (hr.out.below hS hbf.out).mono (fun b hb => Or.inl hb)
  · exact Row.mono (hp.out.below hS hbf.out) (fun b hb => Or.inl hb)
end Go.Proofs.Yteefodibpjgicaa

/- Layer 7: sizes of what is built. No program in it. -/
namespace Go.Proofs.Yteefodibpjgicaa
namespace M7
open M3 (push)
theorem dt_put {d : Nat} {L : List Nd} (x : Nd) (h : okD d L) : dtN (putN d x L) ≤ dtN L + (x.text.size + dtN x.kids) := by
  induction d generalizing L with
  | zero => exact dt_push L x
  | succ d ih =>
    rcases List.eq_nil_or_concat L with rfl | ⟨A, y, rfl⟩
    · exact h.elim
    · rw [List.concat_eq_append, okD_snoc] at *
      rw [putN_snoc, dt_append, dt_append, dt_cons, dt_cons]
      show _ + (y.text.size + dtN (putN d x y.kids) + _) ≤ _
      have := ih h
      omega
theorem dt_step {s : St} (t : Tok) (h : s.ok) : dtN (step s t).L ≤ dtN s.L + t.text.size := by
  unfold step
  split
  · have h1 := okD_pre h (closeAt_le (openN s.d s.L) t.name s.d)
    have := dt_put (elT t) h1
    have e : (elT t).text.size + dtN (elT t).kids = 0 := by show 0 + dtN [] = 0; rw [dt_nil]
    show dtN (putN _ _ _) ≤ _
    omega
  split
  · split <;> exact Nat.le_add_right _ _
  split
  · have := dt_put (txT t) h
    have e : (txT t).text.size + dtN (txT t).kids = t.text.size := by show t.text.size + dtN [] = _; rw [dt_nil]; rfl
    show dtN (putN _ _ _) ≤ _
    omega
  split
  · have := dt_put (coT t) h
    have e : (coT t).text.size + dtN (coT t).kids = t.text.size := by show t.text.size + dtN [] = _; rw [dt_nil]; rfl
    show dtN (putN _ _ _) ≤ _
    omega
  · exact Nat.le_add_right _ _
theorem dt_run (l : List Tok) : dtN (run l).L ≤ (l.map fun t => t.text.size).sum := by
  have key : ∀ (l : List Tok) (s : St), s.ok → dtN (l.foldl step s).L ≤ dtN s.L + (l.map fun t => t.text.size).sum := by
    intro l
    induction l with
    | nil => intro s _; exact Nat.le_refl _
    | cons t r ih =>
      intro s h
      have h1 := ih _ (step_ok t h)
      have h2 := dt_step t h
      rw [List.foldl_cons, List.map_cons, List.sum_cons]
      omega
  have := key l ⟨[], 0⟩ trivial
  have e : dtN (St.mk [] 0).L = 0 := dt_nil
  unfold run
  omega
theorem ok_weight {d : Nat} : ∀ {L : List Nd}, okD d L → d ≤ M3.weight L := by
  induction d with
  | zero => intro L _; exact Nat.zero_le _
  | succ d ih =>
    intro L h
    rcases List.eq_nil_or_concat L with rfl | ⟨A, y, rfl⟩
    · exact h.elim
    · rw [List.concat_eq_append, okD_snoc] at *
      rw [M3.weight_append, M3.weight_cons]
      have := ih h
      omega
end M7
end Go.Proofs.Yteefodibpjgicaa

/- Reference 7: tokens' tree. -/
namespace Go.Proofs.Yteefodibpjgicaa
open Go.RowKit

theorem sum_take_le {α : Type} (f : α → Nat) (l : List α) (i : Nat) : ((l.take i).map f).sum ≤ (l.map f).sum := by
  have : (l.map f).sum = ((l.take i).map f).sum + ((l.drop i).map f).sum := by rw [← List.sum_append, ← List.map_append, List.take_append_drop]
  omega
theorem le_sum_mem {α : Type} (f : α → Nat) (l : List α) (a : α) (h : a ∈ l) : f a ≤ (l.map f).sum := by
  induction l with
  | nil => cases h
  | cons b r ih =>
    rw [List.map_cons, List.sum_cons]
    rcases List.mem_cons.1 h with rfl | h
    · omega
    · have := ih h; omega

/-- What has been handed in, and what was made behind a box. -/
def Sx (S : Nat → Prop) (wo wr : World) (b : Nat) : Prop := S b ∨ (wo.heap.size < b ∧ b < wr.heap.size)
/-- What the reference holds. -/
def TrV (S : Nat → Prop) (wo W : World) (s : M7.St) (vL vP : Value) : Prop := RepN (Sx S wo W) W vL s.L ∧ Ints (Sx S wo W) W vP (M7.pathN s.d s.L) ∧ Below wo.heap.size wo W
def TrB (S : Nat → Prop) (wo W : World) (s : M7.St) : Prop := ∃ vL vP, TrV S wo W s vL vP ∧ Box W wo.heap.size 29 [vL, vP]
def TrI (S : Nat → Prop) (wo wr : World) (s : M7.St) (f : Nat → Bool) (t : Nat → Value) (W : World) : Prop :=
  (f 5 = false → W = wr.drew) ∧ (f 5 = true → f 6 = false → ∃ vL vP z0 z1, t 5 = .agg #[vL, vP] ∧ TrV S wo W s vL vP ∧ Box W wo.heap.size 29 [z0, z1]) ∧ (f 6 = true → TrB S wo W s)
section
variable {S : Nat → Prop} {wo wr W : World} {s : M7.St} {f : Nat → Bool} {t : Nat → Value} {vL vP : Value}
theorem TrI.same (h : TrI S wo wr s f t W) (i : Nat) (v : Value) (h5 : 5 ≠ i) (h6 : 6 ≠ i) : TrI S wo wr s (updF f i) (updT t i v) W := by
  unfold TrI
  rw [updF_ne _ h5, updF_ne _ h6, updT_ne _ _ h5]
  exact h
theorem TrV.store (h : TrV S wo W s vL vP) {z0 z1 : Value} (hb : Box W wo.heap.size 29 [z0, z1]) (hS : ∀ b, S b → b < wo.heap.size) : TrB S wo ((W.setCell ⟨wo.heap.size, 0, none⟩ vL).setCell ⟨wo.heap.size, 1, none⟩ vP) s := by
  obtain ⟨h1, h2, h3⟩ := h
  have hsz : ((W.setCell ⟨wo.heap.size, 0, none⟩ vL).setCell ⟨wo.heap.size, 1, none⟩ vP).heap.size = W.heap.size := by simp [World.setCell]
  have hk : ∀ b, Sx S wo W b → ((W.setCell ⟨wo.heap.size, 0, none⟩ vL).setCell ⟨wo.heap.size, 1, none⟩ vP).heap[b]? = W.heap[b]? := fun b hb => by
    have hne : b ≠ wo.heap.size := by
      rcases hb with hb | hb
      · have := hS b hb; omega
      · omega
    rw [Below.heap_setCell _ _ _ _ (by simpa using hne), Below.heap_setCell _ _ _ _ (by simpa using hne)]
  have hm : ∀ b, Sx S wo W b → Sx S wo ((W.setCell ⟨wo.heap.size, 0, none⟩ vL).setCell ⟨wo.heap.size, 1, none⟩ vP) b := fun b hb => by
    rcases hb with hb | hb
    · exact Or.inl hb
    · exact Or.inr ⟨hb.1, by rw [hsz]; exact hb.2⟩
  exact ⟨_, _, ⟨(h1.keep hk).mono hm, Row.mono (Row.keep h2 hk) hm, two_below h3 _ _ (Nat.le_refl _)⟩, hb.two _ _⟩
end


end Go.Proofs.Yteefodibpjgicaa

/- Layer 7's statements: BuildTrees. -/
namespace Go.Proofs.Yteefodibpjgicaa
open Go.RowKit Go.Maps

theorem cut_text7 (l : List Tok) : ((M7.cutT l).map fun t => t.text.size).sum ≤ 1200 := by
  have h := sum_le (fun t : Tok => t.text.size) 30 (M7.cutT l) (fun t ht => by
    obtain ⟨u, hu, rfl⟩ := List.mem_map.1 ht
    exact few_size7 u.text)
  have : (M7.cutT l).length ≤ 40 := by unfold M7.cutT; simp; omega
  omega


end Go.Proofs.Yteefodibpjgicaa

/- The statements of layer 3: nodes are turned, with all that stands in them; nothing else is. -/
namespace Go.Proofs.Yteefodibpjgicaa
open Go.RowKit

/-- Nothing but blocks of F has changed, none is new. -/
structure Spoilt (F : List Nat) (w w' : World) : Prop where
  os : w'.os = w.os
  tape : w'.tape = w.tape
  output : w'.output = w.output
  size : w'.heap.size = w.heap.size
  block : ∀ b, b ∉ F → w'.heap[b]? = w.heap[b]?
theorem Spoilt.refl (F : List Nat) (w : World) : Spoilt F w w := ⟨rfl, rfl, rfl, rfl, fun _ _ => rfl⟩
theorem Spoilt.trans {F : List Nat} {w w1 w2 : World} (h : Spoilt F w w1) (k : Spoilt F w1 w2) : Spoilt F w w2 :=
  ⟨k.os.trans h.os, k.tape.trans h.tape, k.output.trans h.output, k.size.trans h.size, fun b hb => (k.block b hb).trans (h.block b hb)⟩
theorem Spoilt.mono {F G : List Nat} {w w1 : World} (h : Spoilt F w w1) (hs : ∀ b ∈ F, b ∈ G) : Spoilt G w w1 := ⟨h.os, h.tape, h.output, h.size, fun b hb => h.block b (fun e => hb (hs b e))⟩
theorem Spoilt.set (w : World) (g i : Nat) (u : Value) : Spoilt [g] w (w.setCell ⟨g, i, none⟩ u) :=
  ⟨by simp [World.setCell], by simp [World.setCell], by simp [World.setCell], by simp [World.setCell], fun b hb => Below.heap_setCell _ _ _ _ (by simp at hb; simpa using hb)⟩
theorem Spoilt.below {F : List Nat} {w w1 : World} {B : Nat} (h : Spoilt F w w1) (hB : ∀ b ∈ F, B ≤ b) : Below B w w1 := ⟨h.os, h.tape, h.output, by rw [h.size]; exact Nat.le_refl _, fun b hb => h.block b (fun e => by have := hB b e; omega)⟩
theorem Spoilt.own {F : List Nat} {w w1 : World} {B : Nat} {e : TypeId} {k n : Nat} {v : Value} {xs : List Value} (h : Spoilt F w w1) (ho : w.ownsRow B e k v n xs) (hn : ∀ g, v.ownBlock = some g → g ∉ F) : w1.ownsRow B e k v n xs :=
  own_keep ho (fun g hg => h.block g (hn g hg))
def SpoilPost (F : List Nat) (w : World) (e : Ending) (w' : World) : Prop := e = .returned (.tuple #[]) ∧ Spoilt F w w'


end Go.Proofs.Yteefodibpjgicaa

/- Layer 7's statements: BuildKeeps. -/
namespace Go.Proofs.Yteefodibpjgicaa
open Go.RowKit Go.Maps

theorem RepT.take {S : Nat → Prop} {w : World} (l : List Tok) : ∀ (xs : List Value) (i : Nat), RepT S w xs l → RepT S w (xs.take (i * 4)) (l.take i) := by
  induction l with
  | nil =>
    intro xs i h
    have h : xs = [] := h
    subst h
    rw [List.take_nil, List.take_nil]
    rfl
  | cons t r ih =>
    intro xs i h
    cases i with
    | zero => rw [Nat.zero_mul, List.take_zero, List.take_zero]; rfl
    | succ i =>
      obtain ⟨va, ys, h1, h2, h3⟩ := h
      subst h1
      refine ⟨va, ys.take (i * 4), ?_, h2, ih ys i h3⟩
      rw [List.take_append, Tok.cells_len, show (i + 1) * 4 - 4 = i * 4 by omega, List.take_of_length_le (by rw [Tok.cells_len]; omega)]
theorem TokR.take {S : Nat → Prop} {w : World} {a : Option Addr} {n cap : Nat} {l : List Tok} (h : TokR S w (.slice a n cap) l) (i : Nat) (hi : i ≤ l.length) : TokR S w (.slice a i cap) (l.take i) := by
  obtain ⟨xs, ⟨h0, a', cap', h1, h2, h3, h4, h5⟩, h6⟩ := h
  simp only [Value.slice.injEq] at h1
  obtain ⟨rfl, rfl, rfl⟩ := h1
  have hl : (l.take i).length = i := by rw [List.length_take, Nat.min_eq_left hi]
  refine ⟨xs.take (i * 4), ⟨by rw [List.length_take, hl]; omega, a, cap, by rw [hl], by omega, h3, h4, fun hp => ?_⟩, RepT.take _ _ i h6⟩
  obtain ⟨b, off, e, hb, hx⟩ := h5 (by omega)
  refine ⟨b, off, e, hb, fun j u hu => hx j u ?_⟩
  rw [List.getElem?_take] at hu
  split at hu
  · exact hu
  · cases hu

theorem BS.keep {F : Nat → Prop} {w w' : World} {g mb q : Nat} {s : M7.St} (h : BS F w g mb s q) (hlt : ∀ b, F b → b < w'.heap.size) (hk : ∀ b, F b → w'.heap[b]? = w.heap[b]?) : BS F w' g mb s q := by
  obtain ⟨vo, vt, pt, fs, tx, n, D, h1, h2⟩ := h
  exact ⟨vo, vt, pt, fs, tx, n, D, h1.keep (fun _ h => h) hlt hk, h2⟩
/-- What is told may be turned: the builder stays. -/
theorem LB.nodes2 {w wr : World} {g mb q : Nat} {s : M7.St} (h : LB w wr g mb s q) (hq : q ≤ 100) :
    Calls Try.prog 12 #[.pointer (some ⟨g, 0, none⟩)] wr fun e W' => ∃ v, e = .returned v ∧ Fresh W' wr.heap.size v s.L ∧ ∀ W2, Below wr.heap.size W' W2 → LB w W2 g mb s q := by
  obtain ⟨⟨F, hB, hF⟩, hb⟩ := h
  have hlt := hB.lt
  refine (bNodes hB hq).mono ?_
  rintro e w' ⟨v, rfl, h1, h2, h3⟩
  refine ⟨v, rfl, h1, fun W2 h4 => ⟨⟨F, h2.keep (fun b hb' => ?_) (fun b hb' => h4.block b (hlt b hb')), hF⟩, (Out.low hb h3 hF).trans (h4.mono hb.size)⟩⟩
  have := hlt b hb'
  have := h3.size
  have := h4.size
  omega
theorem sz_take {l : List Tok} (h : FitL l) (i : Nat) : FitL (l.take i) := ⟨by rw [List.length_take]; have := h.1; omega, fun t ht => h.2 t (List.mem_of_mem_take ht)⟩


end Go.Proofs.Yteefodibpjgicaa
