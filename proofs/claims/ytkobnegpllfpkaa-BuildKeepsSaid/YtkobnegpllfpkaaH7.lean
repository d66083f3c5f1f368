/- Texts joined: BldP, BldT, Lives7, Cut7, Ref03w, Shp7, Law07. -/
import Derived.Deep.RegionHeld3
import Derived.Deep.AppendLies
import Derived.Test.YtkobnegpllfpkaaH1
import Derived.Test.YtkobnegpllfpkaaH2
import Derived.Test.YtkobnegpllfpkaaH3
import Derived.Test.YtkobnegpllfpkaaH4
import Derived.Test.YtkobnegpllfpkaaH5
import Derived.Test.YtkobnegpllfpkaaH6
/- Package build: New, Nodes, Tree, Open. -/
namespace Go.Proofs.Ytkobnegpllfpkaa
open Go.RowKit Go.Maps

theorem bNodes {F : Nat → Prop} {w : World} {g mb q : Nat} {s : M7.St} (h : BS F w g mb s q) (hq : q ≤ 100) :
    Calls Try.prog 16 #[.pointer (some ⟨g, 0, none⟩)] w fun e W' => ∃ v, e = .returned v ∧ Fresh W' w.heap.size v s.L ∧ BS F W' g mb s q ∧ Out F w W' :=
  (callsIn_wide (n := 3)).1 (bNodes_in 3 (by omega) h hq)

def root0 : FV := ⟨.mk 0 ⟨#[]⟩ [] ⟨#[]⟩ [], .slice none 0 0, .slice none 0 0, 0⟩
theorem inv0 : BInv [root0] [] 0 (.map []) ⟨[], 0⟩ 0 := by
  refine ⟨rfl, rfl, fun j f h => by simp at h, fun A f h => ?_, fun j f h => by simp at h, fun nm => ⟨rfl, rfl⟩, by simp, by simp, by simp, by show M3.weight [] ≤ _; rw [M3.weight_nil]; omega, fun f h => ?_⟩
  · have : f = root0 := by
      have := congrArg List.getLast? h
      rw [List.getLast?_concat] at this
      simp at this
      exact this.symm
    subst this
    exact M7.noTx_nil
  · have : root0 = f := by simpa using h
    subst this
    rfl

set_option maxHeartbeats 4000000 in
set_option maxRecDepth 100000 in
theorem bNew (w : World) : Calls Try.prog 10 #[] w fun e w' => ∃ g mb, e = .returned (.pointer (some ⟨g, 0, none⟩)) ∧ BS (fun b => w.heap.size ≤ b ∧ b < w'.heap.size) w' g mb ⟨[], 0⟩ 0 ∧ Below w.heap.size w w' := by
  have hmm := @run_makeMap Try.prog 53
  have hb : Below w.heap.size w (((w.alloc (.cells #[.int .i64 0, .string ⟨#[]⟩, .slice none 0 0, .string ⟨#[]⟩, .slice none 0 0, .int .i64 0] 51)).alloc (.map #[] 0)).alloc (.cells #[.slice (some ⟨w.heap.size, 0, none⟩) 1 1, .pointer none, .slice none 0 0, .map (some (w.heap.size + 1))] 59)) := (((Below.refl _ w).alloc (Nat.le_refl _) _).alloc (by simp) _).alloc (by simp; omega) _
  have hB : Bld (fun b => w.heap.size ≤ b ∧ b < w.heap.size + 3) (((w.alloc (.cells #[.int .i64 0, .string ⟨#[]⟩, .slice none 0 0, .string ⟨#[]⟩, .slice none 0 0, .int .i64 0] 51)).alloc (.map #[] 0)).alloc (.cells #[.slice (some ⟨w.heap.size, 0, none⟩) 1 1, .pointer none, .slice none 0 0, .map (some (w.heap.size + 1))] 59)) (w.heap.size + 2) (w.heap.size + 1) (.slice (some ⟨w.heap.size, 0, none⟩) 1 1) (.slice none 0 0) (.pointer none) [root0] [] 0 (.map []) := by
    have hs1 : (w.alloc (.cells #[.int .i64 0, .string ⟨#[]⟩, .slice none 0 0, .string ⟨#[]⟩, .slice none 0 0, .int .i64 0] 51)).heap.size = w.heap.size + 1 := by simp
    have hs2 : ((w.alloc (.cells #[.int .i64 0, .string ⟨#[]⟩, .slice none 0 0, .string ⟨#[]⟩, .slice none 0 0, .int .i64 0] 51)).alloc (.map #[] 0)).heap.size = w.heap.size + 2 := by simp
    have hbx := Box.new ((w.alloc (.cells #[.int .i64 0, .string ⟨#[]⟩, .slice none 0 0, .string ⟨#[]⟩, .slice none 0 0, .int .i64 0] 51)).alloc (.map #[] 0)) 59 [.slice (some ⟨w.heap.size, 0, none⟩) 1 1, .pointer none, .slice none 0 0, .map (some (w.heap.size + 1))]
    rw [hs2] at hbx
    have hrow : (w.alloc (.cells #[.int .i64 0, .string ⟨#[]⟩, .slice none 0 0, .string ⟨#[]⟩, .slice none 0 0, .int .i64 0] 51)).ownsRow 0 51 6 (.slice (some ⟨w.heap.size, 0, none⟩) 1 1) 1 (cellsF [root0]) :=
      ⟨rfl, .inr ⟨w.heap.size, 1, _, rfl, Nat.zero_le _, heap_alloc_new w _, Nat.le_refl _, by unfold maxLen; omega, rfl, rfl⟩⟩
    have hmap := World.ownsMap_made (H := Unit) (w.alloc (.cells #[.int .i64 0, .string ⟨#[]⟩, .slice none 0 0, .string ⟨#[]⟩, .slice none 0 0, .int .i64 0] 51)) Try.prog 9 (plainElem Try.prog 3)
    rw [hs1] at hmap
    have hrole : ∀ i c, roleB (w.heap.size + 2) (w.heap.size + 1) (.slice (some ⟨w.heap.size, 0, none⟩) 1 1) (.slice none 0 0) [root0] i = some c → (i = 0 ∧ c = w.heap.size + 2) ∨ (i = 1 ∧ c = w.heap.size + 1) ∨ (i = 2 ∧ c = w.heap.size) := fun i c h => by
      match i, h with
      | 0, h => exact .inl ⟨rfl, (Option.some.inj h).symm⟩
      | 1, h => exact .inr (.inl ⟨rfl, (Option.some.inj h).symm⟩)
      | 2, h => exact .inr (.inr ⟨rfl, (Option.some.inj h).symm⟩)
      | 3, h => cases h
      | 4, h => cases h
      | i + 5, h =>
        have h : (([root0] : List FV)[i + 1]?).bind (fun f => f.vk.ownBlock) = some c := h
        rw [List.getElem?_eq_none (by simp)] at h
        cases h
    refine ⟨hbx, .inl rfl, (hrow.alloc _).alloc _, World.ownsRowF_nil _ _ _ _, hmap.alloc _, fun f hf => ?_, fun f hf => ?_, fun i j c h1 h2 => ?_, fun i c h => ?_, fun b hb => by simp; omega⟩
    · obtain rfl := List.mem_singleton.1 hf
      exact ⟨[], World.ownsRow_nil _ _ _ _, RepC.nil _ _⟩
    · obtain rfl := List.mem_singleton.1 hf
      exact Row.nil _ _ _
    · rcases hrole i c h1 with ⟨h3, h4⟩ | ⟨h3, h4⟩ | ⟨h3, h4⟩ <;> rcases hrole j c h2 with ⟨h5, h6⟩ | ⟨h5, h6⟩ | ⟨h5, h6⟩ <;> omega
    · rcases hrole i c h with ⟨h3, h4⟩ | ⟨h3, h4⟩ | ⟨h3, h4⟩ <;> omega
  have hsz : (((w.alloc (.cells #[.int .i64 0, .string ⟨#[]⟩, .slice none 0 0, .string ⟨#[]⟩, .slice none 0 0, .int .i64 0] 51)).alloc (.map #[] 0)).alloc (.cells #[.slice (some ⟨w.heap.size, 0, none⟩) 1 1, .pointer none, .slice none 0 0, .map (some (w.heap.size + 1))] 59)).heap.size = w.heap.size + 3 := by simp
  have hP : Hid (∃ g mb, (Ending.returned (.pointer (some ⟨w.heap.size + 2, 0, none⟩))) = .returned (.pointer (some ⟨g, 0, none⟩)) ∧ BS (fun b => w.heap.size ≤ b ∧ b < (((w.alloc (.cells #[.int .i64 0, .string ⟨#[]⟩, .slice none 0 0, .string ⟨#[]⟩, .slice none 0 0, .int .i64 0] 51)).alloc (.map #[] 0)).alloc (.cells #[.slice (some ⟨w.heap.size, 0, none⟩) 1 1, .pointer none, .slice none 0 0, .map (some (w.heap.size + 1))] 59)).heap.size) _ g mb ⟨[], 0⟩ 0 ∧ Below w.heap.size w _) :=
    ⟨_, _, rfl, ⟨_, _, _, _, _, _, _, by rw [hsz]; exact hB, inv0⟩, hb⟩
  clear hB hb hsz
  go_enter Try.func10, Try.ntmps10
  go_wp2
  go_ret
  exact hP.out

theorem Bld.open_sl {F : Nat → Prop} {w : World} {g mb : Nat} {vo vt pt : Value} {fs : List FV} {tx : List UInt8} {n q : Nat} {D : DataW Unit} {s : M7.St} (h : Bld F w g mb vo vt pt fs tx n D) (hI : BInv fs tx n D s q) : ∃ go cap, w.cell? ⟨g, 0, none⟩ = some (.slice (some ⟨go, 0, none⟩) fs.length cap) ∧ fs.length ≤ cap ∧ cap ≤ 9223372036854775807 ∧ F go ∧ ∀ j u, (cellsF fs)[j]? = some u → w.cell? ⟨go, j, none⟩ = some u := by
  obtain ⟨go, cap, hvo, q1, q2, q3⟩ := h.open_slice hI.ne
  have k0 := h.box.cell (i := 0) rfl
  rw [hvo] at k0
  exact ⟨go, cap, k0, q1, q2, h.sub 2 go (by rw [hvo]; rfl), q3⟩
theorem cellsF_at (fs : List FV) (j i : Nat) (f : FV) (u : Value) (hj : fs[j]? = some f) (hi : i < 6) (hu : f.cells[i]? = some u) : (cellsF fs)[j * 6 + i]? = some u := by
  obtain ⟨hjl, hjf⟩ := List.getElem?_eq_some_iff.1 hj
  have e : fs = fs.take j ++ f :: fs.drop (j + 1) := by
    rw [← hjf, ← List.drop_eq_getElem_cons hjl, List.take_append_drop]
  rw [e, cellsF_append, show f :: fs.drop (j + 1) = [f] ++ fs.drop (j + 1) from rfl, cellsF_append, cellsF_one]
  have hl : (cellsF (fs.take j)).length = j * 6 := by rw [cellsF_len]; simp; omega
  rw [List.getElem?_append_right (by omega), hl, show j * 6 + i - j * 6 = i by omega, List.getElem?_append_left (by simp [FV.cells]; omega)]
  exact hu
theorem namesW_at (fs : List FV) (j : Nat) (f : FV) (hj : fs[j + 1]? = some f) : (namesW fs)[j]? = some f.x.name := by
  unfold namesW M7.namesF
  rw [List.getElem?_map, List.getElem?_drop, List.getElem?_map, Nat.add_comm 1 j, hj]
  rfl

set_option maxHeartbeats 8000000 in
set_option maxRecDepth 100000 in
theorem bOpen {F : Nat → Prop} {w : World} {g mb q : Nat} {s : M7.St} (h : BS F w g mb s q) (hq : q ≤ 100) :
    Calls Try.prog 13 #[.pointer (some ⟨g, 0, none⟩)] w (NewTxs (M7.openN s.d s.L) w) := by
  obtain ⟨vo, vt, pt, fs, tx, n, D, hB, hI⟩ := h
  rw [hI.names]
  obtain ⟨go, cap, k0, hvc, hvm, hFg, hcl⟩ := hB.open_sl hI
  have hfs := hI.fsq
  have hfl : 0 < fs.length := List.length_pos_iff.2 hI.ne
  have hnl := namesW_len fs
  have hgl := hB.lt go hFg
  have hatt : ∀ (j : Nat) (f : FV), fs[j]? = some f → (∃ a c, f.va = .slice a f.x.attrs.length c) ∧ ∃ a c, f.vk = .slice a f.x.kids.length c := fun j f hj => by
    have hm := List.mem_of_getElem? hj
    refine ⟨(hB.atts f hm).slice, ?_⟩
    obtain ⟨xs, h1, _⟩ := hB.kids f hm
    exact own_slice h1
  have hg1 : (1 : Int) ≤ (fs.length : Int) := by omega
  have hg2 : (fs.length : Int) ≤ (cap : Int) := by omega
  have hgb := hB.box.lt
  replace hcl := Lib.hid hcl
  replace hatt := Lib.hid hatt
  replace hnl := Lib.hid hnl
  clear hB hI
  obtain ⟨wo, rfl⟩ : ∃ wo : World, wo = w := ⟨_, rfl⟩
  by_cases hc1 : cap = 1
  · have h1 : fs.length = 1 := by omega
    have hnil : namesW fs = [] := List.eq_nil_of_length_eq_zero (by rw [hnl.out, h1])
    rw [hnil]
    rw [h1, hc1] at k0
    clear hcl hatt hnl hvc hvm hfs hfl hg1 hg2 hc1 h1
    go_enter Try.func13, Try.ntmps13
    go_wp2_with fail
    go_loopw [3, 12] (fun u3 u12 wr => u12 = .int .i64 0 ∧ u3 = .slice none 0 0 ∧ wr = wo) (fun _ u12 _ => 0)
    case atStart => exact ⟨rfl, rfl, rfl⟩
    case round =>
      obtain ⟨rfl, rfl, rfl⟩ := hrel
      go_wp2_with fail
      go_ret
      exact ⟨_, rfl, Row.nil _ _ _, Below.refl _ _⟩
  have hcap : (cap : Int) ≠ 1 := by omega
  go_enter Try.func13, Try.ntmps13
  go_wp2_with fail
  go_loopw [3, 12] (fun u3 u12 wr => ∃ i : Nat, i + 1 ≤ fs.length ∧ u12 = .int .i64 (i : Int) ∧ wr.ownsRow wo.heap.size 9 1 u3 i (((namesW fs).take i).flatMap fun s => [.string s]) ∧ Below wo.heap.size wo wr) (fun _ u12 _ => fs.length - (intOf u12).toNat)
  case atStart => exact ⟨0, by omega, rfl, World.ownsRow_nil _ _ _ _, Below.refl _ _⟩
  case round =>
    obtain ⟨i, hi, rfl, hown, hb⟩ := hrel
    have hz := hb.size
    by_cases hlt : i + 1 < fs.length
    · obtain ⟨f, hf⟩ : ∃ f, fs[i + 1]? = some f := ⟨_, List.getElem?_eq_getElem hlt⟩
      obtain ⟨⟨a1, c1, e1⟩, ⟨a2, c2, e2⟩⟩ := hatt.out _ _ hf
      have hcx : ∀ j u, j < 6 → f.cells[j]? = some u → wr.cell? ⟨go, (i + 1) * 6 + j, none⟩ = some u := fun j u hj hu => (hb.cell (p := ⟨go, (i + 1) * 6 + j, none⟩) hgl).trans (hcl.out _ _ (cellsF_at fs (i + 1) j f u hf hj hu))
      have z0 := hcx 0 _ (by decide) rfl
      have z1 := hcx 1 _ (by decide) rfl
      have z2 := hcx 2 _ (by decide) rfl
      have z3 := hcx 3 _ (by decide) rfl
      have z4 := hcx 4 _ (by decide) rfl
      have z5 := hcx 5 _ (by decide) rfl
      rw [e1] at z2
      rw [e2] at z4
      rw [show (i + 1) * 6 = 6 + i * 6 by omega] at z0 z1 z2 z3 z4 z5
      simp only [Nat.add_zero] at z0
      have htk : (namesW fs).take (i + 1) = (namesW fs).take i ++ [f.x.name] := by rw [List.take_add_one, namesW_at fs i f hf]; rfl
      have hi1 : (i : Int) < (fs.length : Int) - 1 := by omega
      have hi0 : (0 : Int) ≤ (i : Int) := by omega
      replace htk := Lib.hid htk
      replace hcx := Lib.hid hcx
      have hb1 : Below wr.heap.size wr (wr.alloc (.cells #[.int .i64 f.x.kind, .string f.x.name, .slice a1 f.x.attrs.length c1, .string f.x.text, .slice a2 f.x.kids.length c2, .int .i64 (f.nx : Int)] 51)) := (Below.refl _ wr).alloc (Nat.le_refl _) _
      go_upto_region 5 with fail
      have bX := Box.new wr 51 [.int .i64 f.x.kind, .string f.x.name, .slice a1 f.x.attrs.length c1, .string f.x.text, .slice a2 f.x.kids.length c2, .int .i64 (f.nx : Int)]
      change Box (wr.alloc (.cells #[.int .i64 f.x.kind, .string f.x.name, .slice a1 f.x.attrs.length c1, .string f.x.text, .slice a2 f.x.kids.length c2, .int .i64 (f.nx : Int)] 51)) _ _ _ at bX
      have hown1 := own_keepW (w' := wr.alloc (.cells #[.int .i64 f.x.kind, .string f.x.name, .slice a1 f.x.attrs.length c1, .string f.x.text, .slice a2 f.x.kids.length c2, .int .i64 (f.nx : Int)] 51)) hown (fun c hc => hb1.block c (hown.lt c hc).2)
      obtain ⟨w1, hw1⟩ : ∃ W, wr.alloc (.cells #[.int .i64 f.x.kind, .string f.x.name, .slice a1 f.x.attrs.length c1, .string f.x.text, .slice a2 f.x.kids.length c2, .int .i64 (f.nx : Int)] 51) = W := ⟨_, rfl⟩
      rw [hw1] at hb1 bX hown1 ⊢
      have hbw : Below wo.heap.size wo w1 := bt hb hb1
      have y1 := bX.cell (i := 1) rfl
      have hz1 := hbw.size
      clear hw1 z0 z1 z2 z3 z4 z5 hown
      go_wp2_with (at_builtin
                   refine wpList_appK w1 [.string f.x.name] 1 rfl _ _ 35 9 rfl wo.heap.size Try.underlying35 infoStr rfl (by omega) _ i (((namesW fs).take i).flatMap fun s => [.string s]) rfl hown1 w1.heap.size rfl (by rfl) rfl (by simp [Value.oneCell']) (by omega) (by omega) hz1 ?_
                   intro g2 cp2 w2 hown2 hgrow2 hat2)
      have hb2 : Below wo.heap.size wo w2 := below_own hbw hown1 hgrow2 hz1 (Nat.le_refl _)
      have hown3 : w2.ownsRow wo.heap.size 9 1 (.slice (some ⟨g2, 0, none⟩) (i + 1) cp2) (i + 1) (((namesW fs).take (i + 1)).flatMap fun s => [.string s]) := by
        rw [htk.out, List.flatMap_append]; exact hown2
      clear hown2 hgrow2 hat2 hown1
      go_roundw
      case rel => exact ⟨i + 1, by omega, by go_num, hown3, hb2⟩
      case measure => exact meas_nat (n := fs.length) (by omega)
    · have hie : i = (namesW fs).length := by rw [hnl.out]; omega
      have hii : ¬ (i < fs.length - 1) := by omega
      have hi2 : ¬ ((i : Int) < (fs.length : Int) - 1) := by omega
      have hres : Hid (Txs (fun b => wo.heap.size ≤ b ∧ b < wr.heap.size) wr u3 (namesW fs)) := by
        rw [List.take_of_length_le (by omega)] at hown
        exact Row.mono (Row.own (S := fun b => wo.heap.size ≤ b ∧ b < wr.heap.size) (by rw [← hie]; exact hown) (fun g hg => ⟨by have := (hown.lt g hg).1; omega, (hown.lt g hg).2⟩)) (fun b h => h)
      clear hown
      go_wp2_with fail
      go_ret
      exact ⟨u3, rfl, hres.out, hb⟩
end Go.Proofs.Ytkobnegpllfpkaa

/- Package build: Tree. -/
namespace Go.Proofs.Ytkobnegpllfpkaa
open Go.RowKit Go.Maps

/-- Tokens as they are read: a row of them. -/
def TokR (S : Nat → Prop) (w : World) (v : Value) (l : List Tok) : Prop := ∃ xs, Row S w 4 v l.length xs ∧ RepT S w xs l
theorem TokR.keep {S : Nat → Prop} {w w' : World} {v : Value} {l : List Tok} (h : TokR S w v l) (hk : ∀ b, S b → w'.heap[b]? = w.heap[b]?) : TokR S w' v l := by
  obtain ⟨xs, h1, h2⟩ := h
  exact ⟨xs, h1.keep hk, RepT.keep hk _ _ h2⟩
theorem TokR.at_ {S : Nat → Prop} {w : World} {a : Option Addr} {n cap : Nat} {l : List Tok} (h : TokR S w (.slice a n cap) l) (i : Nat) (hi : i < l.length) : ∃ b off va, a = some ⟨b, off, none⟩ ∧ S b ∧ Row S w 2 va l[i].attrs.length (cellsA l[i].attrs) ∧
    w.cell? ⟨b, off + i * 4, none⟩ = some (.int .i64 l[i].kind) ∧ w.cell? ⟨b, off + i * 4 + 1, none⟩ = some (.string l[i].name) ∧ w.cell? ⟨b, off + i * 4 + 2, none⟩ = some va ∧ w.cell? ⟨b, off + i * 4 + 3, none⟩ = some (.string l[i].text) := by
  obtain ⟨xs, ⟨h0, a', cap', h1, h2, h3, h4, h5⟩, h6⟩ := h
  cases h1
  obtain ⟨b, off, rfl, h7, h8⟩ := h5 (by omega)
  obtain ⟨va, q0, q1, q2, q3, q4⟩ := RepT.at_ l xs i hi h6
  exact ⟨b, off, va, rfl, h7, q0, h8 _ _ q1, h8 _ _ q2, h8 _ _ q3, h8 _ _ q4⟩
theorem TokR.slice {S : Nat → Prop} {w : World} {v : Value} {l : List Tok} (h : TokR S w v l) : ∃ a c, v = .slice a l.length c := by
  obtain ⟨xs, h1, _⟩ := h
  exact h1.slice
def FitL (l : List Tok) : Prop := l.length ≤ 90 ∧ ∀ t ∈ l, FitT t ∧ (Lit.int .i64 t.kind).wf = true

theorem Out.low {F : Nat → Prop} {w w1 w2 : World} (h : Below w.heap.size w w1) (k : Out F w1 w2) (hF : ∀ b, F b → w.heap.size ≤ b) : Below w.heap.size w w2 :=
  ⟨k.os.trans h.os, k.tape.trans h.tape, k.output.trans h.output, Nat.le_trans h.size k.size, fun b hb => (k.block b (Nat.lt_of_lt_of_le hb h.size) (fun e => by have := hF b e; omega)).trans (h.block b hb)⟩

set_option maxHeartbeats 8000000 in
set_option maxRecDepth 100000 in
theorem bTree (S : Nat → Prop) (v : Value) (l : List Tok) (w : World) (hS : ∀ b, S b → b < w.heap.size) (hr : TokR S w v l) (hf : FitL l) :
    Calls Try.prog 18 #[v] w (FreshPost (M7.tree l) w) := by
  obtain ⟨a, cap, rfl⟩ := hr.slice
  obtain ⟨hl, hft⟩ := hf
  have hN := Lib.hid (fun W => bNew W)
  replace hft := Lib.hid hft
  obtain ⟨wo, rfl⟩ : ∃ wo : World, wo = w := ⟨_, rfl⟩
  go_enter Try.func18, Try.ntmps18
  go_wp2_with fail
  refine (hN.out _).mono ?_
  rintro e w1 ⟨g, mb, rfl, hB1, hb1⟩
  have h0 : Hid (∃ F, BS F w1 g mb (M7.run (l.take 0)) 0 ∧ (∀ b, F b → wo.heap.size ≤ b)) := ⟨_, hB1, fun b hb => hb.1⟩
  clear hB1
  go_wp2_with fail
  go_loopw [9] (fun u9 wr => ∃ i : Nat, i ≤ l.length ∧ u9 = .int .i64 (i : Int) ∧ Hid (∃ F, BS F wr g mb (M7.run (l.take i)) i ∧ (∀ b, F b → wo.heap.size ≤ b)) ∧ Below wo.heap.size wo wr) (fun u9 _ => l.length - (intOf u9).toNat)
  case atStart => exact ⟨0, by omega, rfl, h0, hb1⟩
  case round =>
    obtain ⟨i, hi, rfl, hBS, hb⟩ := hrel
    have hz := hb.size
    clear h0
    by_cases hlt : i < l.length
    · obtain ⟨F, hBS, hF⟩ := hBS.out
      obtain ⟨b, off, va, rfl, hSb, hat, c0, c1, c2, c3⟩ := (hr.keep (w' := wr) (fun b hb' => hb.block b (hS b hb'))).at_ i hlt
      have hbl := hS b hSb
      obtain ⟨hfi, hkw⟩ := hft.out _ (List.getElem_mem hlt)
      have htk : M7.run (l.take (i + 1)) = M7.step (M7.run (l.take i)) l[i] := by
        rw [List.take_succ_eq_append_getElem hlt, M7.run_snoc]
      generalize l[i] = tk at *
      obtain ⟨av, cv, rfl⟩ := hat.slice
      have hb2 : Below wr.heap.size wr (wr.alloc (.cells #[.int .i64 tk.kind, .string tk.name, .slice av tk.attrs.length cv, .string tk.text] 33)) := (Below.refl _ wr).alloc (Nat.le_refl _) _
      have bX := Box.new wr 33 [.int .i64 tk.kind, .string tk.name, .slice av tk.attrs.length cv, .string tk.text]
      change Box (wr.alloc (.cells #[.int .i64 tk.kind, .string tk.name, .slice av tk.attrs.length cv, .string tk.text] 33)) _ _ _ at bX
      replace hBS := Lib.hid hBS
      replace hF := Lib.hid hF
      replace htk := Lib.hid htk
      replace hat := Lib.hid hat
      replace hkw := Lib.hid hkw
      replace bX := Lib.hid bX
      go_upto_region 5 with fail
      obtain ⟨w2, hw2⟩ : ∃ W, wr.alloc (.cells #[.int .i64 tk.kind, .string tk.name, .slice av tk.attrs.length cv, .string tk.text] 33) = W := ⟨_, rfl⟩
      rw [hw2] at hb2 bX ⊢
      have hzz := hb2.size
      have y0 := bX.out.cell (i := 0) rfl
      have y1 := bX.out.cell (i := 1) rfl
      have y2 := bX.out.cell (i := 2) rfl
      have y3 := bX.out.cell (i := 3) rfl
      have hP := Lib.hid (bPut (S := S) (tk := tk) (va := .slice av tk.attrs.length cv) (hBS.out.below hb2) (by omega) hfi hkw.out (fun b h => ⟨by have := hS b h; omega, fun e => by have := hF.out b e; have := hS b h; omega⟩) (hat.out.keep (fun b h => hb2.block b (by have := hS b h; omega))))
      clear hw2 c0 c1 c2 c3
      go_wp2_with fail
      refine hP.out.mono ?_
      rintro e w3 ⟨rfl, hB3, hO3⟩
      have hb3 : Below wo.heap.size wo w3 := Out.low (bt hb hb2) hO3 hF.out
      have hn : Hid (∃ F, BS F w3 g mb (M7.run (l.take (i + 1))) (i + 1) ∧ (∀ b, F b → wo.heap.size ≤ b)) := ⟨grw F w2 w3, by rw [htk.out]; exact hB3, fun b hb' => Or.elim hb' (hF.out b) (fun e => by omega)⟩
      clear hB3 hO3 y0 y1 y2 y3
      go_wp2_with fail
      go_roundw
      case rel => exact ⟨i + 1, by omega, by go_num, hn, hb3⟩
      case measure => exact meas_nat hlt
    · obtain rfl : i = l.length := by omega
      obtain ⟨F, hBS2, hF⟩ := hBS.out
      rw [List.take_length] at hBS2
      have hNd := Lib.hid (bNodes hBS2 (by omega))
      clear hBS2 hBS
      replace hF := Lib.hid hF
      go_wp2_with fail
      refine hNd.out.mono ?_
      rintro e w3 ⟨v3, rfl, hf3, -, hO3⟩
      have hb3 : Below wo.heap.size wo w3 := Out.low hb hO3 hF.out
      have hres : Hid (Fresh w3 wo.heap.size v3 (M7.tree l)) := hf3.base hz
      clear hf3 hO3
      go_wp2_with fail
      go_ret
      exact ⟨v3, rfl, hres.out, hb3⟩
end Go.Proofs.Ytkobnegpllfpkaa

/- Law 7: the document's example; a builder that the call has made. -/
namespace Go.Proofs.Ytkobnegpllfpkaa
open Go.RowKit Go.Maps

/-- A builder that was made since w. -/
def LB (w wr : World) (g mb : Nat) (s : M7.St) (q : Nat) : Prop := (∃ F, BS F wr g mb s q ∧ (∀ b, F b → w.heap.size ≤ b)) ∧ Below w.heap.size w wr
theorem LB.new (w : World) : Calls Try.prog 10 #[] w fun e w' => ∃ g mb, e = .returned (.pointer (some ⟨g, 0, none⟩)) ∧ LB w w' g mb ⟨[], 0⟩ 0 :=
  (bNew w).mono fun _ _ ⟨g, mb, h1, h2, h3⟩ => ⟨g, mb, h1, ⟨_, h2, fun _ h => h.1⟩, h3⟩
theorem LB.put {w wr : World} {g mb q : Nat} {s : M7.St} {S : Nat → Prop} {tk : Tok} {va : Value} (h : LB w wr g mb s q) (hq : q ≤ 100) (ht : FitT tk) (hkw : (Lit.int .i64 tk.kind).wf = true) (hS : ∀ b, S b → b < w.heap.size)
    (hat : Row S wr 2 va tk.attrs.length (cellsA tk.attrs)) :
    Calls Try.prog 11 #[.pointer (some ⟨g, 0, none⟩), tk.val va] wr fun e w' => e = .returned (.tuple #[]) ∧ LB w w' g mb (M7.step s tk) (q + 1) := by
  obtain ⟨⟨F, hB, hF⟩, hb⟩ := h
  have hz := hb.size
  refine (bPut (S := S) hB hq ht hkw (fun b h => ⟨by have := hS b h; omega, fun e => by have := hF b e; have := hS b h; omega⟩) hat).mono ?_
  rintro e w' ⟨rfl, h1, h2⟩
  exact ⟨rfl, ⟨_, h1, fun b hb' => Or.elim hb' (hF b) (fun e => by omega)⟩, Out.low hb h2 hF⟩
theorem LB.nodes {w wr : World} {g mb q : Nat} {s : M7.St} (h : LB w wr g mb s q) (hq : q ≤ 100) :
    Calls Try.prog 16 #[.pointer (some ⟨g, 0, none⟩)] wr fun e W' => ∃ v, e = .returned v ∧ Fresh W' wr.heap.size v s.L ∧ LB w W' g mb s q := by
  obtain ⟨⟨F, hB, hF⟩, hb⟩ := h
  refine (bNodes hB hq).mono ?_
  rintro e w' ⟨v, rfl, h1, h2, h3⟩
  exact ⟨v, rfl, h1, ⟨F, h2, hF⟩, Out.low hb h3 hF⟩
theorem LB.below {w wr w' : World} {g mb q : Nat} {s : M7.St} (h : LB w wr g mb s q) (hb : Below wr.heap.size wr w') : LB w w' g mb s q := by
  obtain ⟨⟨F, hB, hF⟩, hb1⟩ := h
  exact ⟨⟨F, hB.below hb, hF⟩, bt hb1 hb⟩
theorem LB.open_ {w wr : World} {g mb q : Nat} {s : M7.St} (h : LB w wr g mb s q) (hq : q ≤ 100) :
    Calls Try.prog 13 #[.pointer (some ⟨g, 0, none⟩)] wr fun e W' => NewTxs (M7.openN s.d s.L) wr e W' ∧ LB w W' g mb s q := by
  obtain ⟨⟨F, hB, hF⟩, hb⟩ := h
  refine (bOpen hB hq).mono ?_
  rintro e w' h1
  obtain ⟨v, h2, h3, h4⟩ := h1
  exact ⟨⟨v, h2, h3, h4⟩, ⟨F, hB.below h4, hF⟩, bt hb h4⟩

namespace M7
def tkP : Tok := ⟨1, ⟨#[112]⟩, [], ⟨#[]⟩⟩
def tkX : Tok := ⟨3, ⟨#[]⟩, [], ⟨#[120]⟩⟩
def tkD : Tok := ⟨1, ⟨#[100, 105, 118]⟩, [], ⟨#[]⟩⟩
theorem lives_L : (step (step (step ⟨[], 0⟩ tkP) tkX) tkD) = ⟨[.mk 1 ⟨#[112]⟩ [] ⟨#[]⟩ [.mk 2 ⟨#[]⟩ [] ⟨#[120]⟩ []], .mk 1 ⟨#[100, 105, 118]⟩ [] ⟨#[]⟩ []], 1⟩ := by kernel_rfl
theorem lives_O : openN 1 [.mk 1 ⟨#[112]⟩ [] ⟨#[]⟩ [.mk 2 ⟨#[]⟩ [] ⟨#[120]⟩ []], .mk 1 ⟨#[100, 105, 118]⟩ [] ⟨#[]⟩ []] = [⟨#[100, 105, 118]⟩] := by kernel_rfl
end M7

set_option maxHeartbeats 4000000 in
set_option maxRecDepth 100000 in
theorem lives07 (w : World) : Calls Try.prog 17 #[] w fun e w' => e = .returned (.bool true) ∧ Below w.heap.size w w' := by
  have fit : ∀ t, t = M7.tkP ∨ t = M7.tkX ∨ t = M7.tkD → FitT t ∧ (Lit.int .i64 t.kind).wf = true := by
    rintro t (rfl | rfl | rfl) <;> exact ⟨⟨by decide, by decide, by decide⟩, by decide⟩
  obtain ⟨fp1, fp2⟩ := fit _ (.inl rfl)
  obtain ⟨fx1, fx2⟩ := fit _ (.inr (.inl rfl))
  obtain ⟨fd1, fd2⟩ := fit _ (.inr (.inr rfl))
  have hN := Lib.hid (LB.new w)
  have hPP := Lib.hid (fun wr g mb (h : LB w wr g mb ⟨[], 0⟩ 0) => LB.put (S := fun _ => False) (tk := M7.tkP) (va := .slice none 0 0) h (by omega) fp1 fp2 (fun _ h => h.elim) (Row.nil _ _ _))
  have hPX := Lib.hid (fun wr g mb s (h : LB w wr g mb s 1) => LB.put (S := fun _ => False) (tk := M7.tkX) (va := .slice none 0 0) h (by omega) fx1 fx2 (fun _ h => h.elim) (Row.nil _ _ _))
  have hPD := Lib.hid (fun wr g mb s (h : LB w wr g mb s 2) => LB.put (S := fun _ => False) (tk := M7.tkD) (va := .slice none 0 0) h (by omega) fd1 fd2 (fun _ h => h.elim) (Row.nil _ _ _))
  clear fit fp1 fp2 fx1 fx2 fd1 fd2
  obtain ⟨wo, rfl⟩ : ∃ wo : World, wo = w := ⟨_, rfl⟩
  go_enter Try.func17, Try.ntmps17
  go_wp2_with fail
  refine hN.out.mono ?_
  rintro e w1 ⟨g, mb, rfl, h1⟩
  replace h1 := Lib.hid h1
  go_wp2_with fail
  refine (hPP.out _ _ _ h1.out).mono ?_
  rintro e w2 ⟨rfl, h2⟩
  replace h2 := Lib.hid h2
  go_wp2_with fail
  refine (hPX.out _ _ _ _ h2.out).mono ?_
  rintro e w3 ⟨rfl, h3⟩
  replace h3 := Lib.hid h3
  go_wp2_with fail
  refine (hPD.out _ _ _ _ h3.out).mono ?_
  rintro e w4 ⟨rfl, h4⟩
  rw [M7.lives_L] at h4
  replace h4 := Lib.hid h4
  go_wp2_with fail
  refine (LB.nodes h4.out (by omega)).mono ?_
  rintro e w5 ⟨v5, rfl, hf5, h5⟩
  replace h5 := Lib.hid h5
  go_wp2_with fail
  refine (LB.open_ h5.out (by omega)).mono ?_
  rintro e w6 ⟨⟨v6, rfl, hO, hb6⟩, h6⟩
  rw [M7.lives_O] at hO
  have hR := hf5.rep.below (fun b h => h.2) hb6
  obtain ⟨a5, c5, rfl⟩ := hR.slice
  obtain ⟨b5, o5, va5, vk5, rfl, -, y0, y1, y2, y3, y4, hrv⟩ := hR.at_ 0 (by simp)
  obtain ⟨b5', o5', va5', vk5', e5, -, z0, z1, z2, z3, z4, -⟩ := hR.at_ 1 (by simp)
  cases e5
  simp only [Nat.zero_mul, Nat.one_mul, Nat.add_zero] at y1 y4 z1
  obtain ⟨ak, ck, rfl⟩ := hrv.2.slice
  obtain ⟨-, a6, c6, rfl, -, hc6, -, hx6⟩ := hO
  obtain ⟨b6, o6, rfl, -, hcl⟩ := hx6 (by decide)
  have x0 := hcl 0 _ rfl
  simp only [Nat.add_zero] at x0
  replace y1 : w6.cell? ⟨b5, o5 + 1, none⟩ = some (.string ⟨#[112]⟩) := y1
  replace y4 : w6.cell? ⟨b5, o5 + 4, none⟩ = some (.slice ak 1 ck) := y4
  replace z1 : w6.cell? ⟨b5, o5 + 5 + 1, none⟩ = some (.string ⟨#[100, 105, 118]⟩) := z1
  have hbw := h6.2
  clear hR hrv hcl hx6 hf5 h6 hb6 y0 y2 y3 z0 z2 z3 z4
  go_wp2_with fail
  go_ret
  exact ⟨rfl, hbw⟩
end Go.Proofs.Ytkobnegpllfpkaa

/- Reference 7: the tokens' cut. -/
namespace Go.Proofs.Ytkobnegpllfpkaa
open Go.RowKit Go.Maps Go.ChangeShapes Go.WideShapes

namespace M7
def fewT (t : Tok) : Tok := ⟨t.kind, M3.few t.name, (t.attrs.take 5).map M3.fewA, M3.few t.text⟩
def cutT (l : List Tok) : List Tok := (l.take 40).map fewT
def ndT (t : Tok) : Nd := .mk 0 t.name t.attrs t.text []
theorem few_one (t : Tok) : fewN [ndT t] = [.mk 0 (fewT t).name (fewT t).attrs (fewT t).text []] := by
  unfold fewN ndT
  rw [M3.cut_cons, M3.cut_nil]
  simp only [Nd.kids]
  rw [M3.cut_nil]
  rfl
end M7

theorem keep7 {f : Nat → Bool} {t : Nat → Value} {i : Nat} {v u : Value} (h : f 0 = false → t 21 = u) (hi : 21 ≠ i) : updF f i 0 = false → updT t i v 21 = u := by
  intro q
  rw [updT_ne _ _ hi]
  refine h ?_
  by_cases e : 0 = i
  · rw [← e, updF_self] at q; cases q
  · rwa [updF_ne _ e] at q

/-- All texts of tokens are shorter than any that there can be, and their kinds are numbers. -/
def SzT (l : List Tok) : Prop := ∀ t ∈ l, Sz1 (M7.ndT t) ∧ (Lit.int .i64 t.kind).wf = true

def CutT (l : List Tok) (w : World) (e : Ending) (w' : World) : Prop := ∃ v', e = .returned v' ∧ Toks w' w.heap.size v' (M7.cutT l) ∧ Below w.heap.size w w'

set_option maxHeartbeats 8000000 in
set_option maxRecDepth 100000 in
theorem ref07Cut (S : Nat → Prop) (v : Value) (l : List Tok) (w : World) (hS : ∀ b, S b → b < w.heap.size) (hr : TokR S w v l) (hsz : SzT l) :
    Calls Try.prog 9 #[v] w (CutT l w) := by
  obtain ⟨a, cap, rfl⟩ := hr.slice
  obtain ⟨wo, rfl⟩ : ∃ wo : World, wo = w := ⟨_, rfl⟩
  go_enter Try.func9, Try.ntmps9
  go_wp2_with fail
  go_loopw [3, 4] (fun u3 u4 wr => ∃ i : Nat, i ≤ 40 ∧ i ≤ l.length ∧ u4 = .int .i64 (i : Int) ∧ Toks wr wo.heap.size u3 (M7.cutT (l.take i)) ∧ Below wo.heap.size wo wr) (fun _ u4 _ => 40 - (intOf u4).toNat)
  case atStart => exact ⟨0, by omega, by omega, rfl, by rw [List.take_zero]; exact Toks.nil _ _, Below.refl _ _⟩
  case round =>
    obtain ⟨i, h40, hi, rfl, hT, hb⟩ := hrel
    have hz := hb.size
    by_cases hlt : i < l.length ∧ i < 40
    · obtain ⟨hlt, hl40⟩ := hlt
      obtain ⟨b, off, va, rfl, hSb, hat, c0, c1, c2, c3⟩ := (hr.keep (w' := wr) (fun b hb' => hb.block b (hS b hb'))).at_ i hlt
      have hbl := hS b hSb
      obtain ⟨hs1, hkw⟩ := hsz _ (List.getElem_mem hlt)
      have htk : M7.cutT (l.take (i + 1)) = M7.cutT (l.take i) ++ [M7.fewT l[i]] := by
        unfold M7.cutT
        rw [List.take_take, List.take_take, Nat.min_eq_right (by omega), Nat.min_eq_right (by omega), List.take_succ_eq_append_getElem hlt, List.map_append]
        rfl
      have hlc : (M7.cutT (l.take i)).length = i := by unfold M7.cutT; simp; omega
      generalize l[i] = tk at *
      generalize hA : M7.cutT (l.take i) = A at *
      obtain ⟨av, cv, rfl⟩ := hat.slice
      replace hT := Lib.hid hT
      replace htk := Lib.hid htk
      replace hA := Lib.hid hA
      replace hat := Lib.hid hat
      replace hsz := Lib.hid hsz
      go_upto_region 5 with fail
      have hb1 : Below wr.heap.size wr (wr.alloc (.cells #[.int .i64 0, .string ⟨#[]⟩, .slice none 0 0, .string ⟨#[]⟩, .slice none 0 0] 45)) := (Below.refl _ wr).alloc (Nat.le_refl _) _
      have bX := Box.new wr 45 [.int .i64 0, .string ⟨#[]⟩, .slice none 0 0, .string ⟨#[]⟩, .slice none 0 0]
      change Box (wr.alloc (.cells #[.int .i64 0, .string ⟨#[]⟩, .slice none 0 0, .string ⟨#[]⟩, .slice none 0 0] 45)) _ _ _ at bX
      have hz0 : (wr.alloc (.cells #[.int .i64 0, .string ⟨#[]⟩, .slice none 0 0, .string ⟨#[]⟩, .slice none 0 0] 45)).heap.size = wr.heap.size + 1 := by simp
      have d0 := (hb1.cell (p := ⟨b, off + i * 4, none⟩) (by show b < _; omega)).trans c0
      have d1 := (hb1.cell (p := ⟨b, off + i * 4 + 1, none⟩) (by show b < _; omega)).trans c1
      have d2 := (hb1.cell (p := ⟨b, off + i * 4 + 2, none⟩) (by show b < _; omega)).trans c2
      have d3 := (hb1.cell (p := ⟨b, off + i * 4 + 3, none⟩) (by show b < _; omega)).trans c3
      go_region
      have hb2 : Below wr.heap.size wr (wr.alloc (.cells #[.int .i64 0, .string tk.name, .slice av tk.attrs.length cv, .string tk.text, .slice none 0 0] 45)).drew := ((Below.refl _ wr).alloc (Nat.le_refl _) _).drew
      have hz2 : (wr.alloc (.cells #[.int .i64 0, .string tk.name, .slice av tk.attrs.length cv, .string tk.text, .slice none 0 0] 45)).drew.heap.size = wr.heap.size + 1 := by simp
      have bX2 := Box.new wr 45 [.int .i64 0, .string tk.name, .slice av tk.attrs.length cv, .string tk.text, .slice none 0 0]
      change Box (wr.alloc (.cells #[.int .i64 0, .string tk.name, .slice av tk.attrs.length cv, .string tk.text, .slice none 0 0] 45)).drew _ _ _ at bX2
      obtain ⟨w2, hw2⟩ : ∃ W, (wr.alloc (.cells #[.int .i64 0, .string tk.name, .slice av tk.attrs.length cv, .string tk.text, .slice none 0 0] 45)).drew = W := ⟨_, rfl⟩
      rw [hw2] at hb2 hz2 bX2 ⊢
      clear hw2 hb1 bX hz0 d0 d1 d2 d3 c1 c2 c3
      replace c0 := Lib.hid c0
      have x0 := bX2.cell (i := 0) rfl
      have x1 := bX2.cell (i := 1) rfl
      have x2 := bX2.cell (i := 2) rfl
      have x3 := bX2.cell (i := 3) rfl
      have x4 := bX2.cell (i := 4) rfl
      have hF := Lib.hid (fun S v W h1 h2 => ref03Few S v [M7.ndT tk] W h1 h2 (szN_cons.2 ⟨hs1, by rw [show (M7.ndT tk).kids = [] from rfl, SzN]; trivial, by rw [SzN]; trivial⟩))
      clear hs1
      have hbN : Below w2.heap.size w2 (w2.alloc (.cells #[.int .i64 0, .string tk.name, .slice av tk.attrs.length cv, .string tk.text, .slice none 0 0] 45)) := (Below.refl _ w2).alloc (Nat.le_refl _) _
      have hzN : (w2.alloc (.cells #[.int .i64 0, .string tk.name, .slice av tk.attrs.length cv, .string tk.text, .slice none 0 0] 45)).heap.size = w2.heap.size + 1 := by simp
      have bN := Box.new w2 45 [.int .i64 0, .string tk.name, .slice av tk.attrs.length cv, .string tk.text, .slice none 0 0]
      change Box (w2.alloc (.cells #[.int .i64 0, .string tk.name, .slice av tk.attrs.length cv, .string tk.text, .slice none 0 0] 45)) _ _ _ at bN
      have hRN : RepN (fun b => S b ∨ b = wr.heap.size + 1) (w2.alloc (.cells #[.int .i64 0, .string tk.name, .slice av tk.attrs.length cv, .string tk.text, .slice none 0 0] 45)) (.slice (some ⟨wr.heap.size + 1, 0, none⟩) 1 1) [M7.ndT tk] := by
        refine ⟨(M7.ndT tk).cells (.slice av tk.attrs.length cv) (.slice none 0 0), ⟨rfl, some ⟨wr.heap.size + 1, 0, none⟩, 1, rfl, Nat.le_refl _, by omega, (fun h => by cases h), fun _ => ⟨wr.heap.size + 1, 0, rfl, Or.inr rfl, fun j u hu => ?_⟩⟩, RepC.single ⟨?_, RepN.nil _ _⟩⟩
        · rw [Nat.zero_add, ← hz2]; exact bN.cell (i := j) hu
        · exact (hat.out.keep (fun b h => (hbN.block b (by have := hS b h; omega)).trans (hb2.block b (by have := hS b h; omega)))).mono (fun b h => Or.inl h)
      replace hRN := Lib.hid hRN
      replace hbN := Lib.hid hbN
      replace hzN := Lib.hid hzN
      clear bN
      go_wp2_with fail
      refine (hF.out _ _ _ (fun b h => by have h1 := hzN.out; rcases h with h | h <;> first | omega | (have := hS b h; omega)) hRN.out).mono ?_
      rintro e w3 ⟨v3, rfl, hM, hb3⟩
      rw [M7.few_one] at hM
      obtain ⟨a9, c9, rfl⟩ := hM.rep.slice
      obtain ⟨b9, o9, va9, vk9, rfl, ⟨hb9, hb9'⟩, y0, y1, y2, y3, y4, hrv⟩ := hM.rep.at_ 0 (by simp)
      simp only [Nat.zero_mul, Nat.add_zero] at y0 y1 y2 y3 y4
      replace y1 : w3.cell? ⟨b9, o9 + 1, none⟩ = some (.string (M7.fewT tk).name) := y1
      replace y2 : w3.cell? ⟨b9, o9 + 2, none⟩ = some va9 := y2
      replace y3 : w3.cell? ⟨b9, o9 + 3, none⟩ = some (.string (M7.fewT tk).text) := y3
      have hrow := hrv.1
      change Row _ w3 2 va9 (M7.fewT tk).attrs.length (cellsA (M7.fewT tk).attrs) at hrow
      have hz9 := hzN.out
      have hb03 : Below wr.heap.size wr w3 := bt hb2 (bt hbN.out hb3)
      have hz03 := hb03.size
      have hbA : Below wo.heap.size wo w3 := bt hb hb03
      have c0' := (hb03.cell (p := ⟨b, off + i * 4, none⟩) (by show b < _; omega)).trans c0.out
      have hug0 := Lib.hid (fun b (hb : u3.ownBlock = some b) => (hT.out.lt hb).2)
      obtain ⟨xs, hown, hrep⟩ := hT.out.below hb03
      obtain ⟨j0, hj0, hj00, hj01, hj02⟩ := info_parts infoT5
      replace hrow := Lib.hid hrow
      replace hrep := Lib.hid hrep
      replace hb03 := Lib.hid hb03
      replace hbA := Lib.hid hbA
      replace hb3 := Lib.hid hb3
      have hkd : (M7.fewT tk).kind = tk.kind := rfl
      generalize M7.fewT tk = tf at *
      obtain ⟨av9, cv9, rfl⟩ := hrow.slice
      rw [← hkd] at c0'
      replace hkd := Lib.hid hkd
      clear hM hrv y0 y4 hT hF hRN x0 x1 x2 x3 x4 bX2 hb2
      go_upto_region 7 with fail
      have hone : ∀ u ∈ ([.int .i64 tf.kind, .string tf.name, (.slice av9 tf.attrs.length cv9), .string tf.text] : List Value), u.oneCell' = true := by
        simp [Value.oneCell']
      obtain ⟨gg, c2, w6, hrunA, hown6, hgrow, hat6, hlt6⟩ := run_append_lies (P := Try.prog) (w := (w3.alloc (.cells #[.int .i64 tf.kind, .string tf.name, (.slice av9 tf.attrs.length cv9), .string tf.text] 33)).drew) 22 22 wo.heap.size 33 j0 _ 4 64 Try.underlying22 hj0 hj00 hj01 hj02 rfl (by omega) u3 A.length xs ((hown.alloc _).drew) ⟨w3.heap.size, 0, none⟩ 1 1 [.int .i64 tf.kind, .string tf.name, (.slice av9 tf.attrs.length cv9), .string tf.text] (by rfl) (World.news_of_block (cs := #[.int .i64 tf.kind, .string tf.name, (.slice av9 tf.attrs.length cv9), .string tf.text]) (t := 33) (fr := (0, 0)) (heap_alloc_new w3 _)) hone (by omega) (by unfold maxLen; omega) (by omega) (by simp; omega) (w3.heap.size + 1) (by simp)
      replace hlc := Lib.hid hlc
      refine wp_region_knownC (n := 22) ([some (u3), some (Value.slice (some ⟨b, off, none⟩) l.length cap), some (Value.int IntKind.i64 (i : Int)), some (.pointer (some ⟨b, off + i * 4, none⟩)), some (.pointer (some ⟨b, off + i * 4, none⟩)), some (.int .i64 tf.kind), some (Value.slice (some ⟨b9, o9, none⟩) 1 c9), some (.pointer (some ⟨b9, o9, none⟩)), some (.pointer (some ⟨b9, o9 + 1, none⟩)), some (.string tf.name), some (Value.slice (some ⟨b9, o9, none⟩) 1 c9), some (.pointer (some ⟨b9, o9, none⟩)), some (.pointer (some ⟨b9, o9 + 3, none⟩)), some (.string tf.text), some (Value.slice (some ⟨b9, o9, none⟩) 1 c9), some (.pointer (some ⟨b9, o9, none⟩)), some (.pointer (some ⟨b9, o9 + 2, none⟩)), some ((.slice av9 tf.attrs.length cv9)), some (.agg #[.int .i64 tf.kind, .string tf.name, (.slice av9 tf.attrs.length cv9), .string tf.text]), some (.slice (some ⟨w3.heap.size, 0, none⟩) 1 1), some (.slice (some ⟨gg, 0, none⟩) (A.length + 1) c2), some (.slice (some ⟨gg, 0, none⟩) (A.length + 1) c2)] : List (Option Value)) (fun t => ⟨#[Value.slice (some ⟨b, off, none⟩) l.length cap, undef, Value.slice none 0 0, t 21, Value.int IntKind.i64 (i : Int), Value.pointer (some ⟨wr.heap.size, 0, none⟩), Value.slice (some ⟨b9, o9, none⟩) 1 c9, Value.int IntKind.i64 (i : Int), Value.slice (some ⟨b, off, none⟩) l.length cap, Value.int IntKind.i64 (l.length : Int), Value.bool true, Value.bool true, Value.int IntKind.i64 (i : Int), Value.bool true, Value.bool true, u15, u16, Value.slice (some ⟨b, off, none⟩) l.length cap, Value.int IntKind.i64 (i : Int), Value.pointer (some ⟨b, off + i * 4, none⟩), Value.pointer (some ⟨b, off + i * 4 + 1, none⟩), Value.string tk.name, Value.slice (some ⟨b, off, none⟩) l.length cap, Value.int IntKind.i64 (i : Int), Value.pointer (some ⟨b, off + i * 4, none⟩), Value.pointer (some ⟨b, off + i * 4 + 3, none⟩), Value.string tk.text, Value.slice (some ⟨b, off, none⟩) l.length cap, Value.int IntKind.i64 (i : Int), Value.pointer (some ⟨b, off + i * 4, none⟩), Value.pointer (some ⟨b, off + i * 4 + 2, none⟩), Value.slice av tk.attrs.length cv, Value.agg #[Value.int IntKind.i64 0, Value.string tk.name, Value.slice av tk.attrs.length cv, Value.string tk.text, Value.slice none 0 0], Value.agg #[Value.int IntKind.i64 0, Value.string tk.name, Value.slice av tk.attrs.length cv, Value.string tk.text, Value.slice none 0 0], Value.slice (some ⟨wr.heap.size + 1, 0, none⟩) 1 1, Value.slice (some ⟨b9, o9, none⟩) 1 c9, t 0, t 1, t 2, t 3, t 4, t 5, t 6, t 7, t 8, t 9, t 10, t 11, t 12, t 13, t 14, t 15, t 16, t 17, t 18, t 19, t 20, undef], []⟩) (fun f t W => PuI 19 20 21 w3.drew (w3.alloc (.cells #[.int .i64 tf.kind, .string tf.name, (.slice av9 tf.attrs.length cv9), .string tf.text] 33)).drew w6 w6 f W ∧ (f 0 = false → t 21 = u3)) (fun j => match j with | 0 => u36 | 1 => u37 | 2 => u38 | 3 => u39 | 4 => u40 | 5 => u41 | 6 => u42 | 7 => u43 | 8 => u44 | 9 => u45 | 10 => u46 | 11 => u47 | 12 => u48 | 13 => u49 | 14 => u50 | 15 => u51 | 16 => u52 | 17 => u53 | 18 => u54 | 19 => u55 | 20 => u56 | 21 => u3 | _ => undef) (by kernel_rfl) (by rfl) (by rfl) (by kernel_rfl) rfl ?i0 ?step ?fin
      case i0 =>
        exact ⟨PuI.start 22 (by decide) (by decide) (by decide), fun _ => rfl⟩
      case step =>
        intro j0 hj0 f t W hfi hwt hcl hk2 hI
        have h18 : f 19 = true → f 18 = true := hcl 19 18 (by kernel_rfl)
        have ha := hcl 18 5 (by kernel_rfl)
        have hb' := hcl 18 9 (by kernel_rfl)
        have hc := hcl 18 13 (by kernel_rfl)
        have hd := hcl 18 17 (by kernel_rfl)
        have h2019 : f 20 = true → f 19 = true := hcl 20 19 (by kernel_rfl)
        have h2120 : f 21 = true → f 20 = true := hcl 21 20 (by kernel_rfl)
        clear hcl
        have hnot : j0 = 5 ∨ j0 = 9 ∨ j0 = 13 ∨ j0 = 17 → f 19 = false := fun h => Bool.eq_false_iff.2 (fun q => by
          have q := h18 q
          have q1 := ha q
          have q2 := hb' q
          have q3 := hc q
          have q4 := hd q
          rcases h with rfl | rfl | rfl | rfl <;> simp_all)
        obtain rfl | rfl | rfl | rfl | rfl | rfl | rfl | rfl | rfl | rfl | rfl | rfl | rfl | rfl | rfl | rfl | rfl | rfl | rfl | rfl | rfl | rfl : j0 = 0 ∨ j0 = 1 ∨ j0 = 2 ∨ j0 = 3 ∨ j0 = 4 ∨ j0 = 5 ∨ j0 = 6 ∨ j0 = 7 ∨ j0 = 8 ∨ j0 = 9 ∨ j0 = 10 ∨ j0 = 11 ∨ j0 = 12 ∨ j0 = 13 ∨ j0 = 14 ∨ j0 = 15 ∨ j0 = 16 ∨ j0 = 17 ∨ j0 = 18 ∨ j0 = 19 ∨ j0 = 20 ∨ j0 = 21 := by omega
        · -- operation 0
          have e21 : t 21 = u3 := hI.2 hfi
          replace hk2 := Lib.hid hk2
          replace hI := Lib.hid hI
          clear hwt
          refine wpOp_step rfl (fun K hK => ?_)
          go_simp
          exact hK _ _ ⟨_, by simp [updT, e21], hk2.out.at_ rfl, ⟨hI.out.1.same _ (by decide) (by decide) (by decide), keep7 hI.out.2 (by decide)⟩⟩
        · -- operation 1
          try (have hW := hI.1.1 (hnot (by decide)); subst hW)
          replace hI := Lib.hid hI
          replace hk2 := Lib.hid hk2
          clear hwt
          refine wpOp_step rfl (fun K hK => ?_)
          go_simp
          exact hK _ _ ⟨_, by simp [updT], hk2.out.at_ rfl, ⟨hI.out.1.same _ (by decide) (by decide) (by decide), keep7 hI.out.2 (by decide)⟩⟩
        · -- operation 2
          try (have hW := hI.1.1 (hnot (by decide)); subst hW)
          replace hI := Lib.hid hI
          replace hk2 := Lib.hid hk2
          clear hwt
          refine wpOp_step rfl (fun K hK => ?_)
          go_simp
          exact hK _ _ ⟨_, by simp [updT], hk2.out.at_ rfl, ⟨hI.out.1.same _ (by decide) (by decide) (by decide), keep7 hI.out.2 (by decide)⟩⟩
        · -- operation 3
          have e1 : t 1 = Value.slice (some ⟨b, off, none⟩) l.length cap := hk2 1 _ (hwt 1 (by kernel_rfl)) rfl
          have e2 : t 2 = Value.int IntKind.i64 (i : Int) := hk2 2 _ (hwt 2 (by kernel_rfl)) rfl
          try (have hW := hI.1.1 (hnot (by decide)); subst hW)
          replace hI := Lib.hid hI
          replace hk2 := Lib.hid hk2
          clear hwt
          refine wpOp_step rfl (fun K hK => ?_)
          go_simp
          exact hK _ _ ⟨_, by simp [updT, e1, e2], hk2.out.at_ rfl, ⟨hI.out.1.same _ (by decide) (by decide) (by decide), keep7 hI.out.2 (by decide)⟩⟩
        · -- operation 4
          have e3 : t 3 = .pointer (some ⟨b, off + i * 4, none⟩) := hk2 3 _ (hwt 3 (by kernel_rfl)) rfl
          try (have hW := hI.1.1 (hnot (by decide)); subst hW)
          replace hI := Lib.hid hI
          replace hk2 := Lib.hid hk2
          clear hwt
          refine wpOp_step rfl (fun K hK => ?_)
          go_simp
          exact hK _ _ ⟨_, by simp [updT, e3], hk2.out.at_ rfl, ⟨hI.out.1.same _ (by decide) (by decide) (by decide), keep7 hI.out.2 (by decide)⟩⟩
        · -- operation 5
          have e4 : t 4 = .pointer (some ⟨b, off + i * 4, none⟩) := hk2 4 _ (hwt 4 (by kernel_rfl)) rfl
          try (have hW := hI.1.1 (hnot (by decide)); subst hW)
          replace hI := Lib.hid hI
          replace hk2 := Lib.hid hk2
          clear hwt
          refine wpOp_step rfl (fun K hK => ?_)
          go_simp
          exact hK _ _ ⟨_, by simp [updT, e4], hk2.out.at_ rfl, ⟨hI.out.1.same _ (by decide) (by decide) (by decide), keep7 hI.out.2 (by decide)⟩⟩
        · -- operation 6
          try (have hW := hI.1.1 (hnot (by decide)); subst hW)
          replace hI := Lib.hid hI
          replace hk2 := Lib.hid hk2
          clear hwt
          refine wpOp_step rfl (fun K hK => ?_)
          go_simp
          exact hK _ _ ⟨_, by simp [updT], hk2.out.at_ rfl, ⟨hI.out.1.same _ (by decide) (by decide) (by decide), keep7 hI.out.2 (by decide)⟩⟩
        · -- operation 7
          have e6 : t 6 = Value.slice (some ⟨b9, o9, none⟩) 1 c9 := hk2 6 _ (hwt 6 (by kernel_rfl)) rfl
          try (have hW := hI.1.1 (hnot (by decide)); subst hW)
          replace hI := Lib.hid hI
          replace hk2 := Lib.hid hk2
          clear hwt
          refine wpOp_step rfl (fun K hK => ?_)
          go_simp
          exact hK _ _ ⟨_, by simp [updT, e6], hk2.out.at_ rfl, ⟨hI.out.1.same _ (by decide) (by decide) (by decide), keep7 hI.out.2 (by decide)⟩⟩
        · -- operation 8
          have e7 : t 7 = .pointer (some ⟨b9, o9, none⟩) := hk2 7 _ (hwt 7 (by kernel_rfl)) rfl
          try (have hW := hI.1.1 (hnot (by decide)); subst hW)
          replace hI := Lib.hid hI
          replace hk2 := Lib.hid hk2
          clear hwt
          refine wpOp_step rfl (fun K hK => ?_)
          go_simp
          exact hK _ _ ⟨_, by simp [updT, e7], hk2.out.at_ rfl, ⟨hI.out.1.same _ (by decide) (by decide) (by decide), keep7 hI.out.2 (by decide)⟩⟩
        · -- operation 9
          have e8 : t 8 = .pointer (some ⟨b9, o9 + 1, none⟩) := hk2 8 _ (hwt 8 (by kernel_rfl)) rfl
          try (have hW := hI.1.1 (hnot (by decide)); subst hW)
          replace hI := Lib.hid hI
          replace hk2 := Lib.hid hk2
          clear hwt
          refine wpOp_step rfl (fun K hK => ?_)
          go_simp
          exact hK _ _ ⟨_, by simp [updT, e8], hk2.out.at_ rfl, ⟨hI.out.1.same _ (by decide) (by decide) (by decide), keep7 hI.out.2 (by decide)⟩⟩
        · -- operation 10
          try (have hW := hI.1.1 (hnot (by decide)); subst hW)
          replace hI := Lib.hid hI
          replace hk2 := Lib.hid hk2
          clear hwt
          refine wpOp_step rfl (fun K hK => ?_)
          go_simp
          exact hK _ _ ⟨_, by simp [updT], hk2.out.at_ rfl, ⟨hI.out.1.same _ (by decide) (by decide) (by decide), keep7 hI.out.2 (by decide)⟩⟩
        · -- operation 11
          have e10 : t 10 = Value.slice (some ⟨b9, o9, none⟩) 1 c9 := hk2 10 _ (hwt 10 (by kernel_rfl)) rfl
          try (have hW := hI.1.1 (hnot (by decide)); subst hW)
          replace hI := Lib.hid hI
          replace hk2 := Lib.hid hk2
          clear hwt
          refine wpOp_step rfl (fun K hK => ?_)
          go_simp
          exact hK _ _ ⟨_, by simp [updT, e10], hk2.out.at_ rfl, ⟨hI.out.1.same _ (by decide) (by decide) (by decide), keep7 hI.out.2 (by decide)⟩⟩
        · -- operation 12
          have e11 : t 11 = .pointer (some ⟨b9, o9, none⟩) := hk2 11 _ (hwt 11 (by kernel_rfl)) rfl
          try (have hW := hI.1.1 (hnot (by decide)); subst hW)
          replace hI := Lib.hid hI
          replace hk2 := Lib.hid hk2
          clear hwt
          refine wpOp_step rfl (fun K hK => ?_)
          go_simp
          exact hK _ _ ⟨_, by simp [updT, e11], hk2.out.at_ rfl, ⟨hI.out.1.same _ (by decide) (by decide) (by decide), keep7 hI.out.2 (by decide)⟩⟩
        · -- operation 13
          have e12 : t 12 = .pointer (some ⟨b9, o9 + 3, none⟩) := hk2 12 _ (hwt 12 (by kernel_rfl)) rfl
          try (have hW := hI.1.1 (hnot (by decide)); subst hW)
          replace hI := Lib.hid hI
          replace hk2 := Lib.hid hk2
          clear hwt
          refine wpOp_step rfl (fun K hK => ?_)
          go_simp
          exact hK _ _ ⟨_, by simp [updT, e12], hk2.out.at_ rfl, ⟨hI.out.1.same _ (by decide) (by decide) (by decide), keep7 hI.out.2 (by decide)⟩⟩
        · -- operation 14
          try (have hW := hI.1.1 (hnot (by decide)); subst hW)
          replace hI := Lib.hid hI
          replace hk2 := Lib.hid hk2
          clear hwt
          refine wpOp_step rfl (fun K hK => ?_)
          go_simp
          exact hK _ _ ⟨_, by simp [updT], hk2.out.at_ rfl, ⟨hI.out.1.same _ (by decide) (by decide) (by decide), keep7 hI.out.2 (by decide)⟩⟩
        · -- operation 15
          have e14 : t 14 = Value.slice (some ⟨b9, o9, none⟩) 1 c9 := hk2 14 _ (hwt 14 (by kernel_rfl)) rfl
          try (have hW := hI.1.1 (hnot (by decide)); subst hW)
          replace hI := Lib.hid hI
          replace hk2 := Lib.hid hk2
          clear hwt
          refine wpOp_step rfl (fun K hK => ?_)
          go_simp
          exact hK _ _ ⟨_, by simp [updT, e14], hk2.out.at_ rfl, ⟨hI.out.1.same _ (by decide) (by decide) (by decide), keep7 hI.out.2 (by decide)⟩⟩
        · -- operation 16
          have e15 : t 15 = .pointer (some ⟨b9, o9, none⟩) := hk2 15 _ (hwt 15 (by kernel_rfl)) rfl
          try (have hW := hI.1.1 (hnot (by decide)); subst hW)
          replace hI := Lib.hid hI
          replace hk2 := Lib.hid hk2
          clear hwt
          refine wpOp_step rfl (fun K hK => ?_)
          go_simp
          exact hK _ _ ⟨_, by simp [updT, e15], hk2.out.at_ rfl, ⟨hI.out.1.same _ (by decide) (by decide) (by decide), keep7 hI.out.2 (by decide)⟩⟩
        · -- operation 17
          have e16 : t 16 = .pointer (some ⟨b9, o9 + 2, none⟩) := hk2 16 _ (hwt 16 (by kernel_rfl)) rfl
          try (have hW := hI.1.1 (hnot (by decide)); subst hW)
          replace hI := Lib.hid hI
          replace hk2 := Lib.hid hk2
          clear hwt
          refine wpOp_step rfl (fun K hK => ?_)
          go_simp
          exact hK _ _ ⟨_, by simp [updT, e16], hk2.out.at_ rfl, ⟨hI.out.1.same _ (by decide) (by decide) (by decide), keep7 hI.out.2 (by decide)⟩⟩
        · -- operation 18
          have e5 : t 5 = .int .i64 tf.kind := hk2 5 _ (hwt 5 (by kernel_rfl)) rfl
          have e9 : t 9 = .string tf.name := hk2 9 _ (hwt 9 (by kernel_rfl)) rfl
          have e13 : t 13 = .string tf.text := hk2 13 _ (hwt 13 (by kernel_rfl)) rfl
          have e17 : t 17 = (.slice av9 tf.attrs.length cv9) := hk2 17 _ (hwt 17 (by kernel_rfl)) rfl
          try (have hW := hI.1.1 (hnot (by decide)); subst hW)
          replace hI := Lib.hid hI
          replace hk2 := Lib.hid hk2
          clear hwt
          refine wpOp_step rfl (fun K hK => ?_)
          go_simp
          exact hK _ _ ⟨_, by simp [updT, e5, e9, e13, e17], hk2.out.at_ rfl, ⟨hI.out.1.same _ (by decide) (by decide) (by decide), keep7 hI.out.2 (by decide)⟩⟩
        · -- operation 19
          have e18 : t 18 = .agg #[.int .i64 tf.kind, .string tf.name, (.slice av9 tf.attrs.length cv9), .string tf.text] := hk2 18 _ (hwt 18 (by kernel_rfl)) rfl
          have h20 : f 20 = false := Bool.eq_false_iff.2 (fun h => by rw [h2019 h] at hfi; cases hfi)
          have h21 : f 21 = false := Bool.eq_false_iff.2 (fun h => by rw [h2120 h] at h20; cases h20)
          have hW := hI.1.1 hfi
          subst hW
          replace hk2 := Lib.hid hk2
          replace hI := Lib.hid hI
          clear hwt
          refine wpOp_step rfl (fun K hK => ?_)
          go_simp
          exact hK _ _ ⟨_, by simp [updT, e18], hk2.out.at_ rfl, ⟨PuI.mk1 (by decide) (by decide) h20 h21, keep7 hI.out.2 (by decide)⟩⟩
        · -- operation 20
          have e0 : t 0 = u3 := hk2 0 _ (hwt 0 (by kernel_rfl)) rfl
          have e19 : t 19 = .slice (some ⟨w3.heap.size, 0, none⟩) 1 1 := hk2 19 _ (hwt 19 (by kernel_rfl)) rfl
          have h19 := hwt 19 (by kernel_rfl)
          have h21 : f 21 = false := Bool.eq_false_iff.2 (fun h => by rw [h2120 h] at hfi; cases hfi)
          have hW := hI.1.2.1 h19 hfi
          subst hW
          replace hk2 := Lib.hid hk2
          replace hI := Lib.hid hI
          clear hwt
          refine wpOp_step rfl (fun K hK => ?_)
          refine wp_append_run _ _ 22 rfl _ _ _ (by show t 0 = _; exact e0) (by show t 19 = _; exact e19) hrunA ?_
          exact hK _ _ ⟨_, by simp [updT, Act.put], hk2.out.at_ rfl, ⟨PuI.app (by decide) (by decide) h19 h21, keep7 hI.out.2 (by decide)⟩⟩
        · -- operation 21
          have e20 : t 20 = .slice (some ⟨gg, 0, none⟩) (A.length + 1) c2 := hk2 20 _ (hwt 20 (by kernel_rfl)) rfl
          have h20 := hwt 20 (by kernel_rfl)
          have h19 := h2019 h20
          have hW := hI.1.2.2.1 h20 hfi
          subst hW
          have f0 : f 0 = true := hwt 0 (by kernel_rfl)
          replace hk2 := Lib.hid hk2
          replace hI := Lib.hid hI
          clear hwt
          refine wpOp_step rfl (fun K hK => ?_)
          go_simp
          exact hK _ _ ⟨_, by simp [updT, e20], hk2.out.at_ rfl, ⟨PuI.put (by decide) (by decide) h19 h20, fun q => by rw [updF_ne _ (by decide), f0] at q; cases q⟩⟩
      case fin =>
        intro f t W hall hk2 hI
        have hW := hI.1.2.2.2 (hall 21 (by omega))
        subst hW
        have e21 := hk2 21 _ (hall 21 (by omega)) rfl
        clear hk2 hall hI

        dsimp only
        rw [e21]
        have hz4 := hgrow.size
        have hbB : Below w3.heap.size w3 (w3.alloc (.cells #[.int .i64 tf.kind, .string tf.name, (.slice av9 tf.attrs.length cv9), .string tf.text] 33)).drew := ((Below.refl _ w3).alloc (Nat.le_refl _) _).drew
        have hzB : (w3.alloc (.cells #[.int .i64 tf.kind, .string tf.name, (.slice av9 tf.attrs.length cv9), .string tf.text] 33)).drew.heap.size = w3.heap.size + 1 := by simp
        have hug := fun g hg => hown.lt g hg
        have hT6 : Hid (Toks W wo.heap.size (.slice (some ⟨gg, 0, none⟩) (A.length + 1) c2) (A ++ [tf])) := by
          refine Toks.snoc (t := tf) (va := .slice av9 tf.attrs.length cv9) (RepT.mono (fun b hb => ⟨hb.1, by omega, hb.2.2⟩) _ _ (RepT.keep (fun b hb => hbB.block b hb.2.1) _ _ hrep.out)) ?_ hgrow (by rcases hat6 with h | h <;> first | exact .inl h | (right; omega)) hown6
          refine ((hrow.out.keep (fun b hb => hbB.block b hb.2)).mono fun b hb => ⟨?_, ?_, fun e => ?_⟩)
          · have := hb.1; omega
          · have := hb.2; omega
          · have := hug0.out b e; have := hb.1; omega
        have hb6 : Below wo.heap.size wo W := (hbA.out.trans (hbB.mono hbA.out.size)).grown hgrow (by have := hbA.out.size; omega) (fun g hg => (hug g hg).1)
        have hT7 : Hid (Toks W wo.heap.size (.slice (some ⟨gg, 0, none⟩) (A.length + 1) c2) (M7.cutT (l.take (i + 1)))) := by rw [htk.out]; exact hT6.out
        clear hown6 hgrow hat6 hrunA hT6
        go_wp2_with fail
        go_roundw
        case rel => exact ⟨i + 1, by omega, by omega, by go_num, hT7.out, hb6⟩
        case measure => simp [intOf]; omega
    · have hr' : M7.cutT (l.take i) = M7.cutT l := by
        unfold M7.cutT
        rcases Nat.lt_or_ge i l.length with h | h
        · rw [show i = 40 by omega, List.take_take]; rfl
        · rw [List.take_of_length_le h]
      rw [hr'] at hT
      replace hT := Lib.hid hT
      have htest : (decide (i < l.length) = false) ∨ (decide (i < l.length) = true ∧ decide ((i : Int) < 40) = false) := by
        by_cases h : i < l.length
        · exact Or.inr ⟨decide_eq_true (by omega), decide_eq_false (by omega)⟩
        · exact Or.inl (decide_eq_false (by omega))
      clear hlt hr'
      rcases htest with htest | ⟨htest, htest2⟩
      all_goals
        go_wp2_with fail
        go_ret
        exact ⟨u3, rfl, hT.out, hb⟩
end Go.Proofs.Ytkobnegpllfpkaa

/- The reference of layer 3: weight, all. -/
namespace Go.Proofs.Ytkobnegpllfpkaa
open Go.RowKit

def WeightPost (l : List Nd) (w : World) (e : Ending) (w' : World) : Prop := e = .returned (.int .i64 (M3.weight l : Int)) ∧ Below w.heap.size w w'

theorem weight_drop (l : List Nd) (i : Nat) (h : i < l.length) : M3.weight (l.take (i + 1)) = M3.weight (l.take i) + (1 + l[i].attrs.length + M3.weight l[i].kids) := by
  rw [List.take_succ_eq_append_getElem h, M3.weight_append, M3.weight_cons, M3.weight_nil]
  omega

theorem weight_take_le (l : List Nd) (i : Nat) : M3.weight (l.take i) ≤ M3.weight l := by
  have : M3.weight l = M3.weight (l.take i) + M3.weight (l.drop i) := by rw [← M3.weight_append, List.take_append_drop]
  omega

set_option maxHeartbeats 4000000 in
set_option maxRecDepth 100000 in
theorem ref03Weight (wt : Nat) : ∀ (S : Nat → Prop) (l : List Nd) (v : Value) (w : World), M3.weight l < wt → M3.weight l ≤ 1000000 → (∀ b, S b → b < w.heap.size) → RepN S w v l → Calls Try.prog 21 #[v] w (WeightPost l w) := by
  induction wt with
  | zero => intro S l v w h; omega
  | succ wt ih =>
  intro S l v w hwt hw6 hS hr
  obtain ⟨a, cap, rfl⟩ := hr.slice
  obtain ⟨_, hlc, hcm⟩ := hr.len
  have hll := M3.length_le_weight l
  replace ih := Lib.hid ih
  go_enter Try.func21, Try.ntmps21
  go_wp2_with (fail)
  go_loopw [3, 4] (fun u3 u4 wr => ∃ i : Nat, i ≤ l.length ∧ u4 = .int .i64 (i : Int) ∧ u3 = .int .i64 (M3.weight (l.take i) : Int) ∧ Below w.heap.size w wr) (fun _ u4 _ => l.length - (intOf u4).toNat)
  case atStart => exact ⟨0, by omega, rfl, by simp [M3.weight_nil], Below.refl _ _⟩
  case round =>
    obtain ⟨i, hi, rfl, rfl, hb⟩ := hrel
    have hz := hb.size
    have hwt2 := weight_take_le l i
    by_cases hlt : i < l.length
    · obtain ⟨b, off, va, vk, rfl, hSb, c0, c1, c2, c3, c4, hrv⟩ := (hr.below hS hb).at_ i hlt
      have hbl := hS b hSb
      have hwd := weight_drop l i hlt
      have hwd2 := weight_take_le l (i + 1)
      have hmem := weight_mem (List.getElem_mem hlt)
      generalize l[i] = x at *
      obtain ⟨a1, e1, rfl⟩ := hrv.at_.slice
      obtain ⟨a2, e2, rfl⟩ := hrv.kids.slice
      have hih := Lib.hid (fun W (hW : Below wr.heap.size wr W) => ih.out S x.kids (.slice a2 x.kids.length e2) W (by omega) (by omega) (fun b h => by have := hS b h; have := hW.size; omega) (RepN.below (w := wr) (B := wr.heap.size) hrv.kids (fun b h => by have := hS b h; omega) hW))
      have hI1 : (i : Int) < (l.length : Int) := by omega
      have hI0 : (0 : Int) ≤ (i : Int) := by omega
      clear hrv ih c0 c1 c3
      have hs2 : Hid (IntKind.i64.wrap (IntKind.i64.wrap (IntKind.i64.wrap ((M3.weight (l.take i) : Int) + 1) + (x.attrs.length : Int)) + (M3.weight x.kids : Int)) = (M3.weight (l.take (i + 1)) : Int)) := by
        show _ = _
        rw [show IntKind.i64.wrap ((M3.weight (l.take i) : Int) + 1) = (M3.weight (l.take i) : Int) + 1 from IntWalk.i64_in _ ⟨by omega, by omega⟩, show IntKind.i64.wrap ((M3.weight (l.take i) : Int) + 1 + (x.attrs.length : Int)) = (M3.weight (l.take i) : Int) + 1 + (x.attrs.length : Int) from IntWalk.i64_in _ ⟨by omega, by omega⟩, IntWalk.i64_in _ ⟨by omega, by omega⟩]
        omega
      generalize hN1 : M3.weight (l.take (i + 1)) = N1 at *
      replace hN1 := Lib.hid hN1
      generalize M3.weight (l.take i) = N0 at *
      replace hwd := Lib.hid hwd
      go_wp2_with (fail)
      go_region_held3 (fun w' => w'.cell? ⟨b, off + i * 5 + 2, none⟩ = some (.slice a1 x.attrs.length e1) ∧ w'.cell? ⟨b, off + i * 5 + 4, none⟩ = some (.slice a2 x.kids.length e2))
        (first
          | go_keep
          | (go_split_ands
             refine ⟨?_, ?_⟩
             · (rw [hb5.cell (p := ⟨b, off + i * 5 + 2, none⟩) (by simp; omega)]; assumption)
             · (rw [hb5.cell (p := ⟨b, off + i * 5 + 4, none⟩) (by simp; omega)]; assumption)))
        (first
          | (go_at_call 21; refine (hih.out _ ((Below.refl _ wr).drew)).mono ?_; rintro e w5 ⟨rfl, hb5⟩))
      go_wp2_with (fail)
      go_roundw
      case rel => exact ⟨i + 1, by omega, by go_num, by rw [hN1.out, hs2.out], hb.trans ((((Below.refl _ wr).drew).trans hb5).mono hz)⟩
      case measure => exact meas_nat hlt
    · obtain rfl : i = l.length := by omega
      rw [List.take_length]
      go_wp2_with (fail)
      go_ret
      exact ⟨rfl, hb⟩

theorem all_append (a b : List Nd) : M3.all (a ++ b) = M3.all a ++ M3.all b := by
  induction a with
  | nil => rw [M3.all_nil]; rfl
  | cons x r ih => rw [List.cons_append, M3.all_cons, M3.all_cons, ih]; simp

theorem all_take (l : List Nd) (i : Nat) (h : i < l.length) : M3.all (l.take (i + 1)) = M3.all (l.take i) ++ [l[i]] ++ M3.all l[i].kids := by
  rw [List.take_succ_eq_append_getElem h, all_append, M3.all_cons, M3.all_nil]
  simp

theorem all_take_len (l : List Nd) (i : Nat) : (M3.all (l.take i)).length ≤ M3.weight l := Nat.le_trans (M3.all_len _) (weight_take_le l i)

theorem cellsV_onesW {L : List NV} (h : ∀ b ∈ L, b.ok) : ∀ u ∈ cellsV L, u.oneCell' = true := by
  intro u hu
  obtain ⟨b, hb, hu⟩ := List.mem_flatMap.1 hu
  obtain ⟨⟨a1, c1, h1⟩, a2, c2, h2⟩ := h b hb
  simp [NV.cells, h1, h2] at hu
  rcases hu with rfl | rfl | rfl | rfl | rfl <;> rfl

/-- A row of the call's own, what stands in it shared with what came in. -/
def SharePost (S : Nat → Prop) (l : List Nd) (w : World) (e : Ending) (w' : World) : Prop := ∃ v' L, e = .returned v' ∧ L.map NV.x = l ∧ w'.ownsRow w.heap.size 45 5 v' L.length (cellsV L) ∧ (∀ b ∈ L, RepV S w b.x b.va b.vk) ∧ Below w.heap.size w w'

end Go.Proofs.Ytkobnegpllfpkaa

/- Law 7: nodes that have their shape. -/
namespace Go.Proofs.Ytkobnegpllfpkaa
open Go.RowKit

def M7.headBad (p : ByteArray) (pt : Bool) (x : Nd) : Bool := (x.kind == 1 && M6.closesB p.data.toList x.name.data.toList) || (x.kind == 2 && (x.text.toList.isEmpty || pt))

def M7.shapeR (p : ByteArray) (pt : Bool) : List Nd → Bool
  | [] => true
  | .mk k n a t ks :: r => !(M7.headBad p pt (.mk k n a t ks)) && (!(M3.voidB n.data.toList && !ks.isEmpty) && M7.shapeR n false ks) && M7.shapeR p (k == 2) r
termination_by l => SizeOf.sizeOf l

/-- No text is empty or beside another, a void element has no kids, no kid closes its parent. -/
def M7.shapeB (p : ByteArray) (l : List Nd) : Bool := !(M3.voidB p.data.toList && !l.isEmpty) && M7.shapeR p false l

theorem M7.shapeR_cons (p : ByteArray) (pt : Bool) (x : Nd) (r : List Nd) : M7.shapeR p pt (x :: r) = (!(M7.headBad p pt x) && M7.shapeB x.name x.kids && M7.shapeR p (x.kind == 2) r) := by
  cases x
  rw [M7.shapeR]; rfl

def M7.ptAt (l : List Nd) : Nat → Bool
  | 0 => false
  | j + 1 => match l[j]? with | some x => x.kind == 2 | none => false

theorem M7.shape_step {p : ByteArray} {l : List Nd} {i : Nat} (hi : i < l.length) : M7.shapeR p (M7.ptAt l i) (l.drop i) = (!(M7.headBad p (M7.ptAt l i) l[i]) && M7.shapeB l[i].name l[i].kids && M7.shapeR p (M7.ptAt l (i + 1)) (l.drop (i + 1))) := by
  rw [List.drop_eq_getElem_cons hi, M7.shapeR_cons]
  have h : M7.ptAt l (i + 1) = (l[i].kind == 2) := by
    show (match l[i]? with | some x => x.kind == 2 | none => false) = _
    rw [List.getElem?_eq_getElem hi]
  rw [h]

set_option maxHeartbeats 8000000 in
set_option maxRecDepth 100000 in
theorem law07shaped (wt : Nat) : ∀ (S : Nat → Prop) (p : ByteArray) (v : Value) (l : List Nd) (w : World), M3.weight l < wt → M3.weight l ≤ 1000000 → (∀ b, S b → b < w.heap.size) → RepN S w v l →
    Calls Try.prog 20 #[.string p, v] w fun e w' => e = .returned (.bool (M7.shapeB p l)) ∧ Below w.heap.size w w' := by
  induction wt with
  | zero => intro S p v l w h; omega
  | succ wt ih =>
  intro S p v l w hwt hw6 hS hr
  have hll := M3.length_le_weight l
  obtain ⟨a, cap, rfl⟩ := hr.slice
  obtain ⟨_, hlc, hcm⟩ := hr.len
  replace ih := Lib.hid ih
  obtain ⟨R, hR⟩ : ∃ R, Hid (M7.shapeB p l = R) := ⟨_, rfl⟩
  rw [hR.out]
  generalize hvb : M3.voidB p.data.toList = vb
  have hVd : Hid (Calls Try.prog 27 #[.string p] w fun e w' => e = .returned (.bool vb) ∧ w = w') := by rw [← hvb]; exact (ref03Void p w).mono fun _ _ h => ⟨h.1, h.2.symm⟩
  go_enter Try.func20, Try.ntmps20
  go_upto_region 2 with (go_at_call 27; refine hVd.out.mono ?_; rintro e w' ⟨rfl, rfl⟩)
  go_cut [16] from 9 to 16 (fun s16 wx => s16 = .bool (vb && !l.isEmpty) ∧ wx = w)
  case first =>
    cases vb
    · go_wp2_with fail
      go_meet
      case rel => exact ⟨rfl, rfl⟩
    · cases l with
      | nil =>
        go_wp2_with fail
        go_meet
        case rel => exact ⟨rfl, rfl⟩
      | cons x r =>
        have h0 : (0 : Int) < ((x :: r).length : Int) := by rw [List.length_cons]; omega
        go_wp2_with fail
        go_meet
        case rel => exact ⟨rfl, rfl⟩
  case rest =>
    obtain ⟨rfl, hcw⟩ := hcut
    rw [hcw]
    clear hcw
    have hRq : Hid (R = (!(vb && !l.isEmpty) && M7.shapeR p false l)) := by
      show _ = _
      rw [← hR.out, ← hvb]; rfl
    clear hR hVd
    replace hvb := Lib.hid hvb
    generalize (vb && !l.isEmpty) = q at *
    cases q
    · have hR3 : Hid (R = M7.shapeR p false l) := by
        show _ = _
        rw [hRq.out]; rfl
      clear hRq
      go_wp2_with fail
      go_loopw [6, 7, 8] (fun u6 u7 u8 wr => ∃ i : Nat, i ≤ l.length ∧ u6 = .int .i64 (i : Int) ∧ R = M7.shapeR p (M7.ptAt l i) (l.drop i) ∧ Below w.heap.size w wr) (fun u6 _ _ _ => l.length - (intOf u6).toNat)
      case atStart => exact ⟨0, by omega, rfl, by rw [List.drop_zero]; exact hR3.out, Below.refl _ _⟩
      case round =>
        obtain ⟨i, hi, rfl, hRi, hb⟩ := hrel
        have hz := hb.size
        clear hR3
        by_cases hlt : i < l.length
        · obtain ⟨b, off, va, vk, rfl, hSb, c0, c1, c2, c3, c4, hrv⟩ := (hr.below hS hb).at_ i hlt
          have hbl := hS b hSb
          have hwk := weight_mem (List.getElem_mem hlt)
          have hwx := weight_le (List.getElem_mem hlt)
          rw [M7.shape_step hlt] at hRi
          have hpv : Hid (M7.ptAt l i = true ∧ 0 < i ∧ wr.cell? ⟨b, off + (i - 1) * 5, none⟩ = some (.int .i64 2) ∨ M7.ptAt l i = false ∧ (i = 0 ∨ 0 < i ∧ ∃ k : Int, k ≠ 2 ∧ wr.cell? ⟨b, off + (i - 1) * 5, none⟩ = some (.int .i64 k))) := by
            show _ ∨ _
            cases i with
            | zero => exact Or.inr ⟨rfl, Or.inl rfl⟩
            | succ j =>
              obtain ⟨b', off', va', vk', e', hSb', c0', -, -, -, -, -⟩ := (hr.below hS hb).at_ j (by omega)
              cases e'
              have e : M7.ptAt l (j + 1) = (l[j].kind == 2) := by
                show (match l[j]? with | some x => x.kind == 2 | none => false) = _
                rw [List.getElem?_eq_getElem (by omega)]
              rw [e]
              by_cases h2 : l[j].kind = 2
              · rw [h2] at c0' ⊢
                exact Or.inl ⟨rfl, by omega, c0'⟩
              · exact Or.inr ⟨by simpa using h2, Or.inr ⟨by omega, l[j].kind, h2, c0'⟩⟩
          generalize M7.ptAt l i = pt at *
          generalize hdr : M7.shapeR p (M7.ptAt l (i + 1)) (l.drop (i + 1)) = rest at *
          replace hdr := Lib.hid hdr
          generalize l[i] = x at *
          obtain ⟨a2, e2, rfl⟩ := hrv.kids.slice
          have hI0 : (0 : Int) ≤ (i : Int) := by omega
          have hI1 : (i : Int) < (l.length : Int) := by omega
          cases x with | mk kd n ats t ks =>
          simp only [Nd.kind, Nd.name, Nd.text, Nd.attrs, Nd.kids] at *
          have hkd0 : RepN S wr (.slice a2 ks.length e2) ks := hrv.kids
          replace hkd0 := Lib.hid hkd0
          clear hrv
          have hCl := Lib.hid (ref06Closes p n wr)
          have hbad : Hid (M7.headBad p pt (.mk kd n ats t ks) = ((kd == 1 && M6.closesB p.data.toList n.data.toList) || (kd == 2 && (t.toList.isEmpty || pt)))) := rfl
          generalize M6.closesB p.data.toList n.data.toList = cl at *
          generalize M7.headBad p pt (.mk kd n ats t ks) = bad at *
          replace hRi := Lib.hid hRi
          obtain ⟨wo, rfl⟩ : ∃ wo : World, wo = wr := ⟨_, rfl⟩
          go_upto_region 7 with (fail)
          go_cut [7] from 17 to 80 (fun s7 wy => s7 = .bool (kd == 1 && cl) ∧ Below wo.heap.size wo wy)
          case first =>
            by_cases hk : kd = 1
            · subst hk
              go_wp2_with (go_at_call 24; refine hCl.out.mono ?_; rintro e w' ⟨rfl, hbc⟩)
              go_meet
              case rel => exact ⟨rfl, hbc⟩
            · have hk1 : (kd == 1) = false := by simpa using hk
              have hk2 : decide (kd = 1) = false := by simpa using hk
              go_wp2_with fail
              go_meet
              case rel => exact ⟨by rw [hk1]; rfl, Below.refl _ _⟩
          case rest =>
            obtain ⟨rfl, hbc⟩ := hcut
            obtain ⟨wy, rfl⟩ : ∃ W : World, W = wc := ⟨_, rfl⟩
            have hbcl := Lib.hid hbc
            have c0' := cell_of_below hbc c0 (by omega)
            have c1' := cell_of_below hbc c1 (by omega)
            have c3' := cell_of_below hbc c3 (by omega)
            have c4' := cell_of_below hbc c4 (by omega)
            clear c0 c1 c2 c3 c4 hCl
            obtain ⟨q7, hq7⟩ : ∃ q, Hid ((kd == 1 && cl) = q) := ⟨_, rfl⟩
            rw [hq7.out] at hbad ⊢
            go_upto_region 8 with (fail)
            go_cut [67] from 17 to 80 (fun s67 wz => s67 = .bool bad ∧ wz = wy)
            case first =>
              by_cases hk : kd = 2
              · subst hk
                obtain rfl : q7 = false := by rw [← hq7.out]; rfl
                have hbb : bad = (t.toList.isEmpty || pt) := by rw [hbad.out]; rfl
                cases hte : t.toList.isEmpty
                · rw [hte] at hbb
                  rcases hpv.out with ⟨rfl, hi0, q0⟩ | ⟨rfl, rfl | ⟨hi0, k, hk2, q0⟩⟩
                  · obtain ⟨j, hj⟩ : ∃ j, j = i - 1 := ⟨_, rfl⟩
                    rw [← hj] at q0
                    have hj2 : (i : Int) - 1 = (j : Int) := by omega
                    have hj3 : (0 : Int) ≤ (j : Int) := by omega
                    have hj4 : (j : Int) < (l.length : Int) := by omega
                    have hj5 : (0 : Int) < (i : Int) := by omega
                    have q1 := cell_of_below hbcl.out q0 (by omega)
                    clear q0 hj
                    go_wp2_with fail
                    go_meet
                    case rel => exact ⟨by rw [hbb]; rfl, rfl⟩
                  · rw [Nat.zero_mul, Nat.add_zero] at c0' c3'
                    go_wp2_with fail
                    go_meet
                    case rel => exact ⟨by rw [hbb]; rfl, rfl⟩
                  · obtain ⟨j, hj⟩ : ∃ j, j = i - 1 := ⟨_, rfl⟩
                    rw [← hj] at q0
                    have hj2 : (i : Int) - 1 = (j : Int) := by omega
                    have hj3 : (0 : Int) ≤ (j : Int) := by omega
                    have hj4 : (j : Int) < (l.length : Int) := by omega
                    have hj5 : (0 : Int) < (i : Int) := by omega
                    have q1 := cell_of_below hbcl.out q0 (by omega)
                    have hk4 : (k == 2) = false := by simpa using hk2
                    clear q0 hj
                    go_wp2_with fail
                    go_meet
                    case rel => exact ⟨by rw [hbb]; rfl, rfl⟩
                · rw [hte] at hbb
                  go_wp2_with fail
                  go_meet
                  case rel => exact ⟨by rw [hbb]; rfl, rfl⟩
              · have hk1 : (kd == 2) = false := by simpa using hk
                have hk2 : decide (kd = 2) = false := by simpa using hk
                rw [hk1] at hbad
                have hbb : bad = q7 := by rw [hbad.out]; simp
                cases q7
                · go_wp2_with fail
                  go_meet
                  case rel => exact ⟨by rw [hbb], rfl⟩
                · go_wp2_with fail
                  go_meet
                  case rel => exact ⟨by rw [hbb], rfl⟩
            case rest =>
              obtain ⟨rfl, hcw⟩ := hcut
              rw [hcw]
              clear hcw hbad hpv hq7 c0' c3'
              have hca := Lib.hid (fun W (hW : Below wy.heap.size wy W) => ih.out S n (.slice a2 ks.length e2) ks W (by have h0 : M3.weight ks < M3.weight l := hwk; omega) (by have h0 : M3.weight ks < M3.weight l := hwk; omega) (fun c hc => Nat.lt_of_lt_of_le (hS c hc) (Nat.le_trans hz (bt hbcl.out hW).size)) ((hkd0.out).below (fun c hc => Nat.lt_of_lt_of_le (hS c hc) hz) (bt hbcl.out hW)))
              generalize M7.shapeB n ks = sk at *
              cases bad
              · go_wp2_with fail
                have hbly : b < wy.heap.size := Nat.lt_of_lt_of_le (Nat.lt_of_lt_of_le hbl hz) hbcl.out.size
                refine wp_region_known (n := 12) ([some (Value.slice (some ⟨b, off, none⟩) l.length cap), some (Value.int IntKind.i64 (i : Int)), some (.pointer (some ⟨b, off + i * 5, none⟩)), some (.pointer (some ⟨b, off + i * 5 + 1, none⟩)), some (.string n), some (Value.slice (some ⟨b, off, none⟩) l.length cap), some (Value.int IntKind.i64 (i : Int)), some (.pointer (some ⟨b, off + i * 5, none⟩)), some (.pointer (some ⟨b, off + i * 5 + 4, none⟩)), some (.slice a2 ks.length e2), some (.bool sk), some (.bool sk)] : List (Option Value)) (fun t => ⟨#[Value.string p, Value.slice (some ⟨b, off, none⟩) l.length cap, undef, undef, u4, Value.bool vb, Value.int IntKind.i64 (i : Int), Value.bool q7, t 11, u9, u10, u11, u12, u13, u14, u15, Value.bool false, u17, u18, u19, u20, u21, u22, u23, u24, u25, u26, u27, u28, u29, u30, u31, u32, u33, u34, u35, u36, u37, u38, u39, u40, u41, u42, u43, u44, u45, u46, u47, u48, u49, u50, u51, u52, u53, u54, u55, u56, u57, u58, u59, u60, u61, u62, u63, u64, u65, u66, Value.bool false, t 0, t 1, t 2, t 3, t 4, t 5, t 6, t 7, t 8, t 9, t 10, u79, u80], []⟩) (fun f t W => Below wy.heap.size wy W) (fun j => match j with | 0 => u68 | 1 => u69 | 2 => u70 | 3 => u71 | 4 => u72 | 5 => u73 | 6 => u74 | 7 => u75 | 8 => u76 | 9 => u77 | 10 => u78 | 11 => u8 | _ => undef) (by kernel_rfl) (by rfl) (by rfl) (by kernel_rfl) rfl ?i0 ?step ?fin
                case i0 =>
                  exact (Below.refl _ wy).drew
                case step =>
                  intro j0 hj0 f t W hfi hwt hk2 hI
                  have s1 := cell_of_below hI c1' (by omega)
                  have s4 := cell_of_below hI c4' (by omega)
                  obtain rfl | rfl | rfl | rfl | rfl | rfl | rfl | rfl | rfl | rfl | rfl | rfl : j0 = 0 ∨ j0 = 1 ∨ j0 = 2 ∨ j0 = 3 ∨ j0 = 4 ∨ j0 = 5 ∨ j0 = 6 ∨ j0 = 7 ∨ j0 = 8 ∨ j0 = 9 ∨ j0 = 10 ∨ j0 = 11 := by omega
                  · -- operation 0
                    replace hI := Lib.hid hI
                    replace hk2 := Lib.hid hk2
                    clear hwt
                    refine wpOp_step rfl (fun K hK => ?_)
                    go_simp
                    exact hK _ _ ⟨_, by simp [updT], hk2.out.at_ rfl, hI.out⟩
                  · -- operation 1
                    replace hI := Lib.hid hI
                    replace hk2 := Lib.hid hk2
                    clear hwt
                    refine wpOp_step rfl (fun K hK => ?_)
                    go_simp
                    exact hK _ _ ⟨_, by simp [updT], hk2.out.at_ rfl, hI.out⟩
                  · -- operation 2
                    have e0 : t 0 = Value.slice (some ⟨b, off, none⟩) l.length cap := hk2 0 _ (hwt 0 (by kernel_rfl)) rfl
                    have e1 : t 1 = Value.int IntKind.i64 (i : Int) := hk2 1 _ (hwt 1 (by kernel_rfl)) rfl
                    replace hI := Lib.hid hI
                    replace hk2 := Lib.hid hk2
                    clear hwt
                    refine wpOp_step rfl (fun K hK => ?_)
                    go_simp
                    exact hK _ _ ⟨_, by simp [updT, e0, e1], hk2.out.at_ rfl, hI.out⟩
                  · -- operation 3
                    have e2 : t 2 = .pointer (some ⟨b, off + i * 5, none⟩) := hk2 2 _ (hwt 2 (by kernel_rfl)) rfl
                    replace hI := Lib.hid hI
                    replace hk2 := Lib.hid hk2
                    clear hwt
                    refine wpOp_step rfl (fun K hK => ?_)
                    go_simp
                    exact hK _ _ ⟨_, by simp [updT, e2], hk2.out.at_ rfl, hI.out⟩
                  · -- operation 4
                    have e3 : t 3 = .pointer (some ⟨b, off + i * 5 + 1, none⟩) := hk2 3 _ (hwt 3 (by kernel_rfl)) rfl
                    replace hI := Lib.hid hI
                    replace hk2 := Lib.hid hk2
                    clear hwt
                    refine wpOp_step rfl (fun K hK => ?_)
                    go_simp
                    exact hK _ _ ⟨_, by simp [updT, e3], hk2.out.at_ rfl, hI.out⟩
                  · -- operation 5
                    replace hI := Lib.hid hI
                    replace hk2 := Lib.hid hk2
                    clear hwt
                    refine wpOp_step rfl (fun K hK => ?_)
                    go_simp
                    exact hK _ _ ⟨_, by simp [updT], hk2.out.at_ rfl, hI.out⟩
                  · -- operation 6
                    replace hI := Lib.hid hI
                    replace hk2 := Lib.hid hk2
                    clear hwt
                    refine wpOp_step rfl (fun K hK => ?_)
                    go_simp
                    exact hK _ _ ⟨_, by simp [updT], hk2.out.at_ rfl, hI.out⟩
                  · -- operation 7
                    have e5 : t 5 = Value.slice (some ⟨b, off, none⟩) l.length cap := hk2 5 _ (hwt 5 (by kernel_rfl)) rfl
                    have e6 : t 6 = Value.int IntKind.i64 (i : Int) := hk2 6 _ (hwt 6 (by kernel_rfl)) rfl
                    replace hI := Lib.hid hI
                    replace hk2 := Lib.hid hk2
                    clear hwt
                    refine wpOp_step rfl (fun K hK => ?_)
                    go_simp
                    exact hK _ _ ⟨_, by simp [updT, e5, e6], hk2.out.at_ rfl, hI.out⟩
                  · -- operation 8
                    have e7 : t 7 = .pointer (some ⟨b, off + i * 5, none⟩) := hk2 7 _ (hwt 7 (by kernel_rfl)) rfl
                    replace hI := Lib.hid hI
                    replace hk2 := Lib.hid hk2
                    clear hwt
                    refine wpOp_step rfl (fun K hK => ?_)
                    go_simp
                    exact hK _ _ ⟨_, by simp [updT, e7], hk2.out.at_ rfl, hI.out⟩
                  · -- operation 9
                    have e8 : t 8 = .pointer (some ⟨b, off + i * 5 + 4, none⟩) := hk2 8 _ (hwt 8 (by kernel_rfl)) rfl
                    replace hI := Lib.hid hI
                    replace hk2 := Lib.hid hk2
                    clear hwt
                    refine wpOp_step rfl (fun K hK => ?_)
                    go_simp
                    exact hK _ _ ⟨_, by simp [updT, e8], hk2.out.at_ rfl, hI.out⟩
                  · -- operation 10
                    have e4 : t 4 = .string n := hk2 4 _ (hwt 4 (by kernel_rfl)) rfl
                    have e9 : t 9 = .slice a2 ks.length e2 := hk2 9 _ (hwt 9 (by kernel_rfl)) rfl
                    have hC := Lib.hid (hca.out W hI)
                    replace hk2 := Lib.hid hk2
                    replace hI := Lib.hid hI
                    clear hwt
                    refine wpOp_step rfl (fun K hK => ?_)
                    go_simp
                    refine hC.out.mono ?_
                    rintro e w5 ⟨rfl, hb5⟩
                    exact hK _ _ ⟨_, by simp [updT, e4, e9], hk2.out.at_ rfl, hI.out.trans (hb5.mono hI.out.size)⟩
                  · -- operation 11
                    have e10 : t 10 = .bool sk := hk2 10 _ (hwt 10 (by kernel_rfl)) rfl
                    replace hI := Lib.hid hI
                    replace hk2 := Lib.hid hk2
                    clear hwt
                    refine wpOp_step rfl (fun K hK => ?_)
                    go_simp
                    exact hK _ _ ⟨_, by simp [updT, e10], hk2.out.at_ rfl, hI.out⟩
                case fin =>
                  intro f t W hall hk2 hI
                  have e11 := hk2 11 _ (hall 11 (by omega)) rfl
                  clear hk2 hall
                  try dsimp only
                  rw [e11]
                  have hbW := Lib.hid (bt hb (bt hbcl.out hI))
                  clear hca hI e11
                  cases sk
                  · go_wp2_with fail
                    go_ret
                    exact ⟨by rw [hRi.out]; rfl, hbW.out⟩
                  · go_wp2_with fail
                    go_roundw
                    case rel => exact ⟨i + 1, by omega, by go_num, by rw [hRi.out, hdr.out]; rfl, hbW.out⟩
                    case measure => exact meas_nat hlt
              · go_wp2_with fail
                go_ret
                exact ⟨by rw [hRi.out]; rfl, bt hb hbcl.out⟩
        · obtain rfl : i = l.length := by omega
          have hRt : R = true := by rw [hRi, List.drop_length, M7.shapeR]
          subst hRt
          clear hRi
          go_wp2_with fail
          go_ret
          exact ⟨rfl, hb⟩
    · have hRf : R = false := by rw [hRq.out]; rfl
      subst hRf
      go_wp2_with fail
      go_ret
      exact ⟨rfl, Below.refl _ _⟩
end Go.Proofs.Ytkobnegpllfpkaa

/- Layer 7's statements: what all of them ask; BuildWeighs, BuildShape. -/
namespace Go.Proofs.Ytkobnegpllfpkaa
open Go.RowKit Go.Maps Go.ChangeShapes Go.WideShapes

section
variable {H : Type} {enc : TypeId × Value → H} {w : World} {base : Nat} {spare : Nat → Bool} {held : Bool}
theorem open_tok {n : Nat} {cs : List Value} {y : DataW H × List MemPlace} (hl : cs.length = 4) (h : DataW.trod enc Try.prog w base spare held n 33 cs = some y) :
    ∃ (b : Tok × Value), cs = b.1.cells b.2 ∧ Row (fun b => b < w.heap.size) w 2 b.2 b.1.attrs.length (cellsA b.1.attrs) ∧ Sz1 (M7.ndT b.1) ∧ (Lit.int .i64 b.1.kind).wf = true := by
  match cs, hl with
  | [c0, c1, c2, c3], _ =>
    obtain ⟨xs, m, hm, _, _, hxs, hf⟩ := DataW.trod_struct Try.underlying33 h
    have h0 := hf 0 _ rfl
    have h1 := hf 1 _ rfl
    have h2 := hf 2 _ rfl
    have h3 := hf 3 _ rfl
    change DataW.trod enc Try.prog w base spare held m 3 ((([c0, c1, c2, c3] : List Value).drop 0).take (Try.prog.cellsOf 3)) = xs[0]? at h0
    change DataW.trod enc Try.prog w base spare held m 9 ((([c0, c1, c2, c3] : List Value).drop 1).take (Try.prog.cellsOf 9)) = xs[1]? at h1
    change DataW.trod enc Try.prog w base spare held m 31 ((([c0, c1, c2, c3] : List Value).drop 2).take (Try.prog.cellsOf 31)) = xs[2]? at h2
    change DataW.trod enc Try.prog w base spare held m 9 ((([c0, c1, c2, c3] : List Value).drop 3).take (Try.prog.cellsOf 9)) = xs[3]? at h3
    rw [cell1 3 (Or.inr (Or.inl rfl))] at h0
    rw [cell1 9 (Or.inl rfl)] at h1 h3
    rw [cell1 31 (Or.inr (Or.inr (Or.inl rfl)))] at h2
    simp only [List.drop_zero, List.take_succ_cons, List.take_zero, List.drop_succ_cons] at h0 h1 h2 h3
    rw [List.getElem?_eq_getElem (by rw [hxs]; decide)] at h0
    rw [List.getElem?_eq_getElem (by rw [hxs]; decide)] at h1
    rw [List.getElem?_eq_getElem (by rw [hxs]; decide)] at h2
    rw [List.getElem?_eq_getElem (by rw [hxs]; decide)] at h3
    obtain ⟨k, e0, _, z0⟩ := DataW.trod_int Try.underlying3 h0
    obtain ⟨s1, e1, _, z1⟩ := DataW.trod_string Try.underlying9 h1
    obtain ⟨va, L, e2, r2, z2⟩ := open_attrs h2
    obtain ⟨s3, e3, _, z3⟩ := DataW.trod_string Try.underlying9 h3
    unfold maxLen at z1 z3
    simp only [List.cons.injEq, and_true] at e0 e1 e2 e3
    exact ⟨(⟨k, s1, L, s3⟩, va), by rw [e0, e1, e2, e3]; rfl, r2, ⟨by show s1.size ≤ _; omega, by show s3.size ≤ _; omega, z2⟩, z0⟩
theorem open_toks {fuel : Nat} {cs : List Value} {x : DataW H × List MemPlace} (h : DataW.trod enc Try.prog w base spare held fuel 22 cs = some x) :
    ∃ (v : Value) (l : List Tok), cs = [v] ∧ TokR (fun b => b < w.heap.size) w v l ∧ SzT l := by
  obtain ⟨v, L, hv, hr, hq⟩ := open_rows Try.underlying22 (by kernel_rfl) (by decide) h (fun b : Tok × Value => b.1.cells b.2) (fun _ => rfl) (fun b => Row (fun b => b < w.heap.size) w 2 b.2 b.1.attrs.length (cellsA b.1.attrs) ∧ Sz1 (M7.ndT b.1) ∧ (Lit.int .i64 b.1.kind).wf = true)
    (fun n cs' y _ hl h => open_tok hl h)
  refine ⟨v, L.map Prod.fst, hv, ⟨_, by simpa using hr, ?_⟩, fun t ht => ?_⟩
  · clear hr hv h
    induction L with
    | nil => rfl
    | cons b r ih => exact ⟨b.2, _, by rw [List.flatMap_cons], (hq b (by simp)).1, ih (fun c hc => hq c (by simp [hc]))⟩
  · obtain ⟨b, hb, rfl⟩ := List.mem_map.1 ht
    exact (hq b hb).2
end

theorem few_size7 (s : ByteArray) : (M3.few s).size ≤ 30 := by
  unfold M3.few
  split
  · simp [ByteArray.size_extract]; omega
  · omega
theorem cut_fit7 {l : List Tok} (h : SzT l) : FitL (M7.cutT l) := by
  refine ⟨by unfold M7.cutT; simp; omega, fun t ht => ?_⟩
  obtain ⟨u, hu, rfl⟩ := List.mem_map.1 ht
  have h1 := few_size7 u.name
  have h2 := few_size7 u.text
  exact ⟨⟨by show (M3.few _).size ≤ _; omega, by show (M3.few _).size ≤ _; omega, by show ((u.attrs.take 5).map M3.fewA).length ≤ _; simp; omega⟩, (h u (List.mem_of_mem_take hu)).2⟩
theorem sum_le {α : Type} (f : α → Nat) (k : Nat) : ∀ (l : List α), (∀ a ∈ l, f a ≤ k) → (l.map f).sum ≤ l.length * k
  | [], _ => by simp
  | a :: r, h => by
    have h1 := sum_le f k r (fun b hb => h b (by simp [hb]))
    have h2 := h a (by simp)
    rw [List.map_cons, List.sum_cons, List.length_cons, Nat.add_mul]
    omega
theorem cut_tokW (l : List Tok) : ((M7.cutT l).map M7.tokW).sum ≤ 240 := by
  have h := sum_le M7.tokW 6 (M7.cutT l) (fun t ht => by
    obtain ⟨u, hu, rfl⟩ := List.mem_map.1 ht
    have : (M7.fewT u).attrs.length ≤ 5 := by show ((u.attrs.take 5).map M3.fewA).length ≤ _; simp; omega
    unfold M7.tokW
    split
    · omega
    · split <;> omega)
  have : (M7.cutT l).length ≤ 40 := by unfold M7.cutT; simp; omega
  omega
theorem cut_weight7 (l : List Tok) : M3.weight (M7.tree (M7.cutT l)) ≤ 240 := Nat.le_trans (M7.weight_run _) (cut_tokW l)

def sumT (l : List Tok) (i : Nat) : Nat := ((l.take i).map M7.tokW).sum
theorem sumT_succ (l : List Tok) (i : Nat) (h : i < l.length) : sumT l (i + 1) = sumT l i + M7.tokW l[i] := by
  unfold sumT
  rw [List.take_succ_eq_append_getElem h, List.map_append, List.sum_append]
  simp
theorem sumT_le (l : List Tok) (i : Nat) : sumT l i ≤ (l.map M7.tokW).sum := by
  have : (l.map M7.tokW).sum = sumT l i + ((l.drop i).map M7.tokW).sum := by
    unfold sumT
    rw [← List.sum_append, ← List.map_append, List.take_append_drop]
  omega

theorem TokR.of {w : World} {B : Nat} {v : Value} {l : List Tok} (h : Toks w B v l) : TokR (fun b => B ≤ b ∧ b < w.heap.size) w v l := by
  obtain ⟨xs, h1, h2⟩ := h.rows
  exact ⟨xs, h1, h2⟩

set_option maxHeartbeats 8000000 in
set_option maxRecDepth 100000 in
theorem law07BuildWeighs (S : Nat → Prop) (v : Value) (l : List Tok) (w : World) (hS : ∀ b, S b → b < w.heap.size) (hr : TokR S w v l) (hsz : SzT l) :
    Calls Try.prog 8 #[v] w fun e w' => e = .returned (.bool true) ∧ Below w.heap.size w w' := by
  have hC := Lib.hid (ref07Cut S v l w hS hr hsz)
  have hft := Lib.hid (cut_fit7 hsz)
  have hw := Lib.hid (cut_weight7 l)
  have hwl := Lib.hid (M7.weight_run (M7.cutT l))
  have hsm := Lib.hid (cut_tokW l)
  obtain ⟨wo, rfl⟩ : ∃ wo : World, wo = w := ⟨_, rfl⟩
  go_enter Try.func8, Try.ntmps8
  go_wp2_with fail
  refine hC.out.mono ?_
  rintro e w1 ⟨v1, rfl, hT, hb1⟩
  replace hT := TokR.of hT
  have hz1 := hb1.size
  generalize M7.cutT l = c at *
  obtain ⟨a1, k1, rfl⟩ := hT.slice
  have hcl : c.length ≤ 90 := hft.out.1
  have hTr := Lib.hid (fun W (h : Below w1.heap.size w1 W) => bTree (fun b => wo.heap.size ≤ b ∧ b < w1.heap.size) (.slice a1 c.length k1) c W (fun b hb => Nat.lt_of_lt_of_le hb.2 h.size) (hT.keep fun b hb => h.block b hb.2) hft.out)
  replace hT := Lib.hid hT
  clear hC
  go_wp2_with fail
  go_loopw [3, 4] (fun u3 u4 wr => ∃ i : Nat, i ≤ c.length ∧ u4 = .int .i64 (i : Int) ∧ u3 = .int .i64 (sumT c i : Int) ∧ Below w1.heap.size w1 wr) (fun _ u4 _ => c.length - (intOf u4).toNat)
  case atStart => exact ⟨0, by omega, rfl, rfl, Below.refl _ _⟩
  case round =>
    obtain ⟨i, hi, rfl, rfl, hb⟩ := hrel
    have hz := hb.size
    by_cases hlt : i < c.length
    · obtain ⟨b, off, va, rfl, hSb, hat, c0, c1, c2, c3⟩ := (hT.out.keep (w' := wr) (fun b hb' => hb.block b hb'.2)).at_ i hlt
      have hsu := sumT_succ c i hlt
      have hs1 := sumT_le c i
      have hs2 := hsm.out
      have htk := (hft.out.2 _ (List.getElem_mem hlt)).1.2.2
      generalize sumT c i = n at *
      generalize c[i] = tk at *
      replace hsu := Lib.hid hsu
      obtain ⟨av, cv, rfl⟩ := hat.slice
      obtain ⟨-, hcv, hcm⟩ := hat.len
      by_cases k1 : tk.kind = 1
      · have hn := Lib.hid (show sumT c (i + 1) = n + 1 + tk.attrs.length by rw [hsu.out]; unfold M7.tokW; rw [if_pos k1]; omega)
        rw [k1] at c0
        go_wp2_with fail
        go_roundw
        case rel => exact ⟨i + 1, by omega, by go_num, by rw [hn.out]; go_num, hb⟩
        case measure => exact meas_nat hlt
      · by_cases k3 : tk.kind = 3
        · have hn := Lib.hid (show sumT c (i + 1) = n + 1 by rw [hsu.out]; unfold M7.tokW; rw [if_neg k1, if_pos (Or.inl k3)])
          rw [k3] at c0
          go_wp2_with fail
          go_roundw
          case rel => exact ⟨i + 1, by omega, by go_num, by rw [hn.out]; go_num, hb⟩
          case measure => exact meas_nat hlt
        · have t1 : (tk.kind == 1) = false := beq_false_of_ne k1
          have t3 : (tk.kind == 3) = false := beq_false_of_ne k3
          by_cases k4 : tk.kind = 4
          · have hn := Lib.hid (show sumT c (i + 1) = n + 1 by rw [hsu.out]; unfold M7.tokW; rw [if_neg k1, if_pos (Or.inr k4)])
            rw [k4] at c0
            go_wp2_with fail
            go_roundw
            case rel => exact ⟨i + 1, by omega, by go_num, by rw [hn.out]; go_num, hb⟩
            case measure => exact meas_nat hlt
          · have t4 : (tk.kind == 4) = false := beq_false_of_ne k4
            have hn := Lib.hid (show sumT c (i + 1) = n by rw [hsu.out]; unfold M7.tokW; rw [if_neg k1, if_neg (by rintro (h | h) <;> contradiction), Nat.add_zero])
            go_wp2_with fail
            go_roundw
            case rel => exact ⟨i + 1, by omega, by go_num, by rw [hn.out], hb⟩
            case measure => exact meas_nat hlt
    · obtain rfl : i = c.length := by omega
      have hsc : sumT c c.length = (c.map M7.tokW).sum := by unfold sumT; rw [List.take_length]
      rw [hsc]
      go_wp2_with fail
      refine (hTr.out wr hb).mono ?_
      rintro e w2 ⟨v2, rfl, hf2, hb2⟩
      have hR := hf2.rep
      obtain ⟨a2, k2, rfl⟩ := hR.slice
      have hW := Lib.hid (ref03Weight (M3.weight (M7.tree c) + 1) _ _ _ w2 (by omega) (by have := hw.out; omega) (fun b h => h.2) hR)
      have hb02 : Below wo.heap.size wo w2 := bt hb1 (bt hb hb2)
      have hle : M3.weight (M7.tree c) ≤ (c.map M7.tokW).sum := hwl.out
      have hs2 := hsm.out
      clear hR hf2
      go_wp2_with fail
      refine hW.out.mono ?_
      rintro e w3 ⟨rfl, hb3⟩
      have hL := Lib.hid (fun W => lives07 W)
      generalize M3.weight (M7.tree c) = m at *
      generalize (c.map M7.tokW).sum = n at *
      have hdec : decide ((m : Int) ≤ (n : Int)) = true := decide_eq_true (by omega)
      have hb03 := bt hb02 hb3
      go_wp2_with fail
      refine (hL.out _).mono ?_
      rintro e w4 ⟨rfl, hb4⟩
      have hb04 := bt hb03 hb4
      go_wp2_with fail
      go_ret
      exact ⟨rfl, hb04⟩
end Go.Proofs.Ytkobnegpllfpkaa
