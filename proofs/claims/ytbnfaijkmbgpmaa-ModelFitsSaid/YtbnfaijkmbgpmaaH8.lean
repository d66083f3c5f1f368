/- Texts joined: Mod4, Mod5, Mod6, Mod7, Law06t. -/
import Derived.Lib.SliceRun
import Derived.Test.YtbnfaijkmbgpmaaH1
import Derived.Test.YtbnfaijkmbgpmaaH2
import Derived.Test.YtbnfaijkmbgpmaaH3
import Derived.Test.YtbnfaijkmbgpmaaH4
import Derived.Test.YtbnfaijkmbgpmaaH5
import Derived.Test.YtbnfaijkmbgpmaaH6
import Derived.Test.YtbnfaijkmbgpmaaH7
/- Package model: nodes merged as they stand in that parent. -/
namespace Go.Proofs.Ytbnfaijkmbgpmaa
open Go.RowKit

def zeroN : List Value := [.int .i64 0, .string ⟨#[]⟩, .slice none 0 0, .string ⟨#[]⟩, .slice none 0 0]

theorem clearOne (g c : Nat) (w : World) (ty : TypeId) (hc : ∀ j, j < 5 → (w.cell? ⟨g, 0 + j, none⟩).isSome = true) (hf : ∀ j, j < 5 → w.frozen? ⟨g, 0 + j, none⟩ = false) :
    (Builtin.clear_ #[27] ty #[.slice (some ⟨g, 0, none⟩) 1 c]).run Try.prog w = .ok (.tuple #[]) (w.setCells g 0 zeroN) := by
  have hst := run_storeCells_cells (P := Try.prog) g 0 zeroN 0 w (by simpa [zeroN] using hc) (by simpa [zeroN] using hf) (by simp [zeroN, Value.oneCell'])
  simp only [Nat.add_zero] at hst
  have hz : (Builtin.zeroCells (Value.agg zeroN.toArray).cells 1).toList = zeroN := by kernel_rfl
  have hv : (zeroValue 32).run Try.prog w = .ok (.agg zeroN.toArray) w := Try.zeroValue32 w
  simp [Builtin.clear_, run_underlying Try.underlying27, hv, hz, hst]

/-- A row that the call owns, emptied. -/
theorem own_cleared {w : World} {B g cap : Nat} {xs : List Value} (h : w.ownsRow B 32 5 (.slice (some ⟨g, 0, none⟩) 1 cap) 1 xs) :
    (w.setCells g 0 zeroN).ownsRow B 32 5 (.slice (some ⟨g, 0, none⟩) 0 cap) 0 [] ∧ w.grownBy (w.setCells g 0 zeroN) (some g) := by
  obtain ⟨h1, g1⟩ := h.stored 0 (.int .i64 0)
  obtain ⟨h2, g2⟩ := h1.stored 1 (.string ⟨#[]⟩)
  obtain ⟨h3, g3⟩ := h2.stored 2 (.slice none 0 0)
  obtain ⟨h4, g4⟩ := h3.stored 3 (.string ⟨#[]⟩)
  obtain ⟨h5, g5⟩ := h4.stored 4 (.slice none 0 0)
  refine ⟨?_, g1.trans (g2.trans (g3.trans (g4.trans g5)))⟩
  rcases h5.2 with ⟨h', _⟩ | ⟨g', cap', cur, h', hb, hg, hnc, hcm, hcs, htake⟩
  · cases h'
  · cases h'
    exact ⟨rfl, .inr ⟨g, cap, cur, rfl, hb, hg, Nat.zero_le _, hcm, hcs, by simp⟩⟩

set_option maxHeartbeats 1000000 in
theorem modMerged1 (p : ByteArray) (x : Nd) (va vk : Value) (bp : Nat) (w : World) (hva : ∃ a n c, va = .slice a n c) (hvk : ∃ a n c, vk = .slice a n c) (hp : p.size ≤ 268435456) (ht : x.text.size ≤ 268435456) (hc : w.cell? ⟨bp, 0, none⟩ = some (.string p)) :
    Calls Try.prog 81 #[x.val va vk, .pointer (some ⟨bp, 0, none⟩)] w (BoolB (!(M6.fitsB p x)) w) := by
  have hF := fun W => modFits p x va vk W hva hvk hp ht
  obtain ⟨a1, n1, c1, rfl⟩ := hva
  obtain ⟨a2, n2, c2, rfl⟩ := hvk
  generalize M6.fitsB p x = q at *
  obtain ⟨k, n, ats, t, ks⟩ := x
  change ∀ W, Calls Try.prog 15 #[.string p, .agg #[.int .i64 k, .string n, .slice a1 n1 c1, .string t, .slice a2 n2 c2]] W (BoolB q W) at hF
  show Calls Try.prog 81 #[.agg #[.int .i64 k, .string n, .slice a1 n1 c1, .string t, .slice a2 n2 c2], .pointer (some ⟨bp, 0, none⟩)] w (BoolB (!q) w)
  replace hF := Lib.hid hF
  obtain ⟨wo, rfl⟩ : ∃ wo : World, wo = w := ⟨_, rfl⟩
  have hlt := World.block_lt_of_cell? wo _ hc
  have hb0 : Below wo.heap.size wo (wo.alloc (.cells #[.int .i64 k, .string n, .slice a1 n1 c1, .string t, .slice a2 n2 c2] 32)) := (Below.refl _ wo).alloc (Nat.le_refl _) _
  have hc2 := cell_of_below hb0 hc hlt
  go_enter Try.func81, Try.ntmps81
  go_wp2_with fail
  refine (hF.out _).mono ?_
  rintro e w1 ⟨rfl, hb1⟩
  go_wp2_with fail
  go_ret
  exact ⟨rfl, bt hb0 hb1⟩

def fnM (bp : Nat) : Value := .func (.func 81) #[] #[.pointer (some ⟨bp, 0, none⟩)]

set_option maxHeartbeats 2000000 in
theorem slIndexFunc1 (S : Nat → Prop) (p : ByteArray) (v : Value) (M : List NV) (bp : Nat) (w : World) (hS : ∀ b, S b → b < w.heap.size) (hr : Row S w 5 v M.length (cellsV M)) (hM : M.length ≤ 1) (hok : ∀ b ∈ M, b.ok ∧ b.x.text.size ≤ 268435456) (hp : p.size ≤ 268435456) (hc : w.cell? ⟨bp, 0, none⟩ = some (.string p)) :
    Calls Try.prog 106 #[v, fnM bp] w fun e w' => e = .returned (.int .i64 (if M.all (fun b => M6.fitsB p b.x) then -1 else 0)) ∧ Below w.heap.size w w' := by
  obtain ⟨a, cap, rfl⟩ := hr.slice
  obtain ⟨_, hlc, hcm⟩ := hr.len
  have hE : ∀ (args : Array Value) (w : World), (callFunc 81 args).run Try.prog w = .ok (.enter 81 args) w := enters_of Try.func81 (by kernel_rfl) rfl
  have hcl := World.block_lt_of_cell? w _ hc
  have hcl2 : bp < w.heap.size := hcl
  obtain ⟨wo, rfl⟩ : ∃ wo : World, wo = w := ⟨_, rfl⟩
  unfold fnM
  match M, hM with
  | [], _ =>
    rw [List.all_nil, if_pos rfl]
    go_enter Try.func106, Try.ntmps106
    go_wp2_with fail
    go_loopw [5, 8] (fun _ u8 wr => u8 = .int .i64 0 ∧ wo = wr) (fun _ _ _ => 0)
    case atStart => exact ⟨rfl, rfl⟩
    case round =>
      obtain ⟨rfl, rfl⟩ := hrel
      go_wp2_with fail
      go_ret
      exact ⟨rfl, Below.refl _ _⟩
  | [x], _ =>
    rw [List.all_cons, List.all_nil, Bool.and_true]
    obtain ⟨b, off, rfl, hSb, c0, c1, c2, c3, c4⟩ := hr.atV 0 (by simp)
    simp only [List.getElem_cons_zero, Nat.zero_mul, Nat.add_zero] at c0 c1 c2 c3 c4
    obtain ⟨hkx, hkt⟩ := hok x (by simp)
    have hbl := hS b hSb
    obtain ⟨⟨k, n, ats, t, ks⟩, va, vk⟩ := x
    obtain ⟨⟨a1, e1, hva⟩, a2, e2, hvk⟩ := hkx
    simp only [Nd.kind, Nd.name, Nd.text, Nd.attrs, Nd.kids] at c0 c1 c2 c3 c4 hva hvk
    subst hva
    subst hvk
    have hF := fun W h => modMerged1 p (.mk k n ats t ks) (.slice a1 ats.length e1) (.slice a2 ks.length e2) bp W ⟨_, _, _, rfl⟩ ⟨_, _, _, rfl⟩ hp hkt h
    change ∀ W h, Calls Try.prog 81 #[.agg #[.int .i64 k, .string n, .slice a1 ats.length e1, .string t, .slice a2 ks.length e2], .pointer (some ⟨bp, 0, none⟩)] W (BoolB _ W) at hF
    show Calls _ _ #[.slice (some ⟨b, off, none⟩) 1 cap, _] _ _
    change 1 ≤ cap at hlc
    generalize M6.fitsB p (.mk k n ats t ks) = q at *
    replace hF := Lib.hid hF
    clear hr hok
    go_enter Try.func106, Try.ntmps106
    go_wp2_with fail
    go_loopw [5, 8] (fun _ u8 wr => ∃ i : Nat, i ≤ 1 ∧ u8 = .int .i64 (i : Int) ∧ (i = 1 → q = true) ∧ Below wo.heap.size wo wr) (fun _ u8 _ => 1 - (intOf u8).toNat)
    case atStart => exact ⟨0, by omega, rfl, (fun h => nomatch h), Below.refl _ _⟩
    case round =>
      obtain ⟨i, hi, rfl, hq, hb⟩ := hrel
      by_cases hlt : i < 1
      · obtain rfl : i = 0 := by omega
        have d0 := cell_of_below hb c0 (by omega)
        have d1 := cell_of_below hb c1 (by omega)
        have d2 := cell_of_below hb c2 (by omega)
        have d3 := cell_of_below hb c3 (by omega)
        have d4 := cell_of_below hb c4 (by omega)
        have hF2 := Lib.hid (hF.out wr (cell_of_below hb hc hcl2))
        clear hF hq c0 c1 c2 c3 c4
        go_wp2_with fail
        refine hF2.out.mono ?_
        rintro e w2 ⟨rfl, hb2⟩
        have hb3 := bt hb hb2
        clear hF2
        cases q
        · go_wp2_with fail
          go_ret
          exact ⟨rfl, hb3⟩
        · go_wp2_with fail
          go_roundw
          case rel => exact ⟨1, by omega, by go_num, (fun _ => trivial), hb3⟩
          case measure => show 1 - ((0 : Int) + 1).toNat < 1 - (0 : Int).toNat; omega
      · obtain rfl : i = 1 := by omega
        obtain rfl := hq rfl
        go_wp2_with fail
        go_ret
        exact ⟨rfl, hb⟩

/-- A row of the call's own, that a callee may write. -/
def RowPost (B : Nat) (v : Value) (M : List NV) (w : World) (e : Ending) (w' : World) : Prop := ∃ v', e = .returned v' ∧ w'.ownsRow B 32 5 v' M.length (cellsV M) ∧ v'.ownBlock = v.ownBlock ∧ w.grownBy w' v.ownBlock

theorem grown_of_below {w w' : World} {row : Option Nat} (hb : Below w.heap.size w w') : w.grownBy w' row := ⟨hb.os, hb.tape, hb.output, hb.size, fun k hk _ => hb.block k hk⟩

set_option maxHeartbeats 4000000 in
theorem slDeleteFunc1 (B : Nat) (p : ByteArray) (v : Value) (M : List NV) (bp : Nat) (w : World) (hown : w.ownsRow B 32 5 v M.length (cellsV M)) (hM : M.length ≤ 1) (hok : ∀ b ∈ M, b.ok ∧ b.x.text.size ≤ 268435456) (hp : p.size ≤ 268435456) (hc : w.cell? ⟨bp, 0, none⟩ = some (.string p)) :
    Calls Try.prog 80 #[v, fnM bp] w (RowPost B v (M.filter fun b => M6.fitsB p b.x) w) := by
  have hI := Lib.hid (slIndexFunc1 (fun b => b < w.heap.size) p v M bp w (fun _ h => h) (Row.own hown (fun g hg => (hown.lt g hg).2)) hM hok hp hc)
  cases hall : M.all (fun b => M6.fitsB p b.x)
  · obtain ⟨x, rfl⟩ : ∃ x, M = [x] := by
      match M, hM, hall with
      | [], _, h => cases h
      | [x], _, _ => exact ⟨x, rfl⟩
    have hq : M6.fitsB p x.x = false := by simpa using hall
    rw [hall, if_neg Bool.false_ne_true] at hI
    have hfl : ([x].filter fun b => M6.fitsB p b.x) = [] := by simp [hq]
    rw [hfl]
    clear hall hfl hq hok
    have hown1 : w.ownsRow B 32 5 v 1 (cellsV [x]) := hown
    obtain ⟨g, cap, rfl, hg1, hg2⟩ := hown1.form (by omega)
    have hcap : 1 ≤ cap := by
      rcases hown1.2 with ⟨h', _⟩ | ⟨g', cap', cur, h', _, _, q1, q2, _⟩
      · cases h'
      · cases h'; exact q1
    obtain ⟨wo, rfl⟩ : ∃ wo : World, wo = w := ⟨_, rfl⟩
    go_enter Try.func80, Try.ntmps80
    go_wp2_with fail
    refine hI.out.mono ?_
    rintro e w1 ⟨rfl, hb1⟩
    have hown2 := own_below3 hown1 hb1
    obtain ⟨hown3, hgr⟩ := own_cleared hown2
    have hcell : ∀ j, j < 5 → (w1.cell? ⟨g, 0 + j, none⟩).isSome = true := fun j hj => by
      have h5 := hown2.1
      have := hown2.cells (g := g) rfl j (cellsV [x])[j] (List.getElem?_eq_getElem (by omega))
      rw [add_plain'] at this
      rw [this]; rfl
    have hfr : ∀ j, j < 5 → w1.frozen? ⟨g, 0 + j, none⟩ = false := fun j hj => by
      rcases hown2.2 with ⟨h', _⟩ | ⟨g', cap', cur, h', _, hh, _⟩
      · cases h'
      · cases h'
        simp [World.frozen?, hh]
    have hclr := fun c ty => clearOne g c w1 ty hcell hfr
    have hgw : wo.grownBy (w1.setCells g 0 zeroN) (some g) := (grown_of_below hb1).trans hgr
    clear hcell hfr hgr hown2
    replace hown3 := Lib.hid hown3
    go_wp2_with fail
    go_loopw [5, 6, 7] (fun u5 u6 _ wr => u5 = .int .i64 0 ∧ u6 = .int .i64 1 ∧ w1 = wr) (fun _ _ _ _ => 0)
    case atStart => exact ⟨rfl, rfl, rfl⟩
    case round =>
      obtain ⟨rfl, rfl, rfl⟩ := hrel
      go_wp2_with fail
      go_ret
      exact ⟨_, rfl, hown3.out, rfl, hgw⟩
  · rw [hall, if_pos rfl] at hI
    have hfl : (M.filter fun b => M6.fitsB p b.x) = M := List.filter_eq_self.2 (List.all_eq_true.1 hall)
    rw [hfl]
    clear hall hfl hok
    obtain ⟨a, cap, hv⟩ := own_slice hown
    subst hv
    obtain ⟨wo, rfl⟩ : ∃ wo : World, wo = w := ⟨_, rfl⟩
    go_enter Try.func80, Try.ntmps80
    go_wp2_with fail
    refine hI.out.mono ?_
    rintro e w1 ⟨rfl, hb1⟩
    have hown2 := Lib.hid (own_below3 hown hb1)
    go_wp2_with fail
    go_ret
    exact ⟨_, rfl, hown2.out, rfl, grown_of_below hb1⟩

theorem fitV_map' (q : Nd → Bool) (L : List NV) : (L.filter fun b => q b.x).map NV.x = (L.map NV.x).filter q := by
  rw [List.filter_map]; rfl

/-- What stands in a fresh row's nodes lies beside the row. -/
def Beside (B : Nat) (w : World) (v : Value) : Nat → Prop := fun c => B ≤ c ∧ c < w.heap.size ∧ v.ownBlock ≠ some c

theorem fresh_rows {w : World} {B : Nat} {v : Value} {l : List Nd} (h : Fresh w B v l) : ∃ M : List NV, M.map NV.x = l ∧ w.ownsRow B 32 5 v M.length (cellsV M) ∧ ∀ b ∈ M, RepV (Beside B w v) w b.x b.va b.vk := by
  obtain ⟨zs, F, h1, h2, h3⟩ := h
  obtain ⟨M, rfl, rfl, hM⟩ := RepC.nv _ _ (OwnC.rep _ _ _ h2)
  rw [List.length_map] at h1
  refine ⟨M, rfl, h1, fun b hb => (hM b hb).mono (fun c hc => ?_)⟩
  obtain ⟨q1, q2⟩ := h3.2 c (List.mem_append.2 (Or.inr hc))
  refine ⟨q1, q2, fun e => ?_⟩
  have hnd := h3.1
  exact (List.nodup_append.1 hnd).2.2 c (by rw [e]; simp) c hc rfl

def MergedPost (l : List Nd) (w : World) (e : Ending) (w' : World) : Prop := ∃ v' M, e = .returned v' ∧ M.map NV.x = l ∧ w'.ownsRow w.heap.size 32 5 v' M.length (cellsV M) ∧ (∀ b ∈ M, RepV (Beside w.heap.size w' v') w' b.x b.va b.vk) ∧ Below w.heap.size w w'

set_option maxHeartbeats 2000000 in
theorem modMerged (S : Nat → Prop) (p : ByteArray) (v : Value) (l : List Nd) (w : World) (hS : ∀ b, S b → b < w.heap.size) (hr : RepN S w v l) (hw : M3.weight l ≤ 1000000) (ht : txtN l ≤ 268435456) (hp : p.size ≤ 268435456) (hraw : M3.rawB p.data.toList = true → (M3.merge l).length ≤ 1) :
    Calls Try.prog 61 #[.string p, v] w (MergedPost (if M3.rawB p.data.toList = true then (M3.merge l).filter (M6.fitsB p) else M3.merge l) w) := by
  have hD := Lib.hid (fun W (hb : Below w.heap.size w W) => domMerge S v l W (fun b h => Nat.lt_of_lt_of_le (hS b h) hb.size) (hr.below hS hb) hw (by omega))
  have hR := Lib.hid (fun w => domRaw p w)
  have htm := txtN_merge l
  obtain ⟨a, cap, rfl⟩ := hr.slice
  obtain ⟨wo, rfl⟩ : ∃ wo : World, wo = w := ⟨_, rfl⟩
  have hb0 : Below wo.heap.size wo (wo.alloc (.cells #[.string p] 9)) := (Below.refl _ wo).alloc (Nat.le_refl _) _
  have bx := Box.new wo 9 [.string p]
  have hsz : (wo.alloc (.cells #[.string p] 9)).heap.size = wo.heap.size + 1 := by simp
  have hD1 := Lib.hid (hD.out _ hb0)
  clear hD hr
  generalize M3.merge l = m at *
  obtain ⟨R, hRe⟩ : ∃ R, Hid (R = if M3.rawB p.data.toList = true then m.filter (M6.fitsB p) else m) := ⟨_, rfl⟩
  rw [← hRe.out]
  go_enter Try.func61, Try.ntmps61
  go_wp2_with fail
  refine hD1.out.mono ?_
  rintro e w1 ⟨v1, rfl, hf1, hb1⟩
  obtain ⟨M, rfl, hown, hM⟩ := fresh_rows hf1
  have bx1 := bx.below hb1 (by simp)
  have p0 := bx1.cell (i := 0) rfl
  have hbo := bt hb0 hb1
  have hown' : w1.ownsRow wo.heap.size 32 5 v1 M.length (cellsV M) := own_base hown (fun g hg => by have := (hown.lt g hg).1; omega)
  have hM' : ∀ b ∈ M, RepV (Beside wo.heap.size w1 v1) w1 b.x b.va b.vk := fun b hb => (hM b hb).mono (fun c hc => ⟨by have := hc.1; omega, hc.2⟩)
  clear hD1 hf1 bx bx1 hown hM
  cases hraw2 : M3.rawB p.data.toList
  · have hRe := hRe.out
    rw [hraw2, if_neg Bool.false_ne_true] at hRe
    replace hRe := Lib.hid hRe
    rw [hraw2] at hR
    obtain ⟨a1, c1, hv1⟩ := own_slice hown'
    subst hv1
    replace hM' := Lib.hid hM'
    replace hown' := Lib.hid hown'
    go_wp2_with fail
    refine (hR.out _).mono ?_
    rintro e w2 ⟨rfl, rfl⟩
    go_wp2_with fail
    go_ret
    exact ⟨_, M, rfl, hRe.out.symm, hown'.out, hM'.out, hbo⟩
  · have hRe := hRe.out
    rw [hraw2, if_pos rfl, ← fitV_map'] at hRe
    replace hRe := Lib.hid hRe
    have hlen : M.length ≤ 1 := by have := hraw hraw2; rwa [List.length_map] at this
    rw [hraw2] at hR
    have hDel := slDeleteFunc1 wo.heap.size p v1 M wo.heap.size w1 hown' hlen (fun b hb => ⟨(hM' b hb).ok, by have h1 := txtN_mem (List.mem_map_of_mem (f := NV.x) hb); omega⟩) hp p0
    unfold fnM at hDel
    obtain ⟨a1, c1, hv1⟩ := own_slice hown'
    subst hv1
    replace hDel := Lib.hid hDel
    replace hM' := Lib.hid hM'
    replace hown' := Lib.hid hown'
    go_wp2_with fail
    refine (hR.out _).mono ?_
    rintro e w2 ⟨rfl, rfl⟩
    go_wp2_with fail
    refine hDel.out.mono ?_
    rintro e w3 ⟨v3, rfl, hown3, hob, hgr⟩
    have hb3 : Below wo.heap.size wo w3 := hbo.grown hgr hbo.size (fun k hk => (hown'.out.lt k hk).1)
    have hM3 : ∀ b ∈ (M.filter fun b => M6.fitsB p b.x), RepV (Beside wo.heap.size w3 v3) w3 b.x b.va b.vk := fun b hb => by
      refine ((hM'.out b (List.mem_filter.1 hb).1).keep (w' := w3) (fun c hc => hgr.block c hc.2.1 (fun e => hc.2.2 e.symm))).mono (fun c hc => ⟨hc.1, by have := hgr.size; have := hc.2.1; omega, by rw [hob]; exact hc.2.2⟩)
    replace hM3 := Lib.hid hM3
    replace hown3 := Lib.hid hown3
    go_wp2_with fail
    go_ret
    exact ⟨v3, _, rfl, hRe.out.symm, hown3.out, hM3.out, hb3⟩
end Go.Proofs.Ytbnfaijkmbgpmaa

/- Package model: elements get their kids. -/
namespace Go.Proofs.Ytbnfaijkmbgpmaa
open Go.RowKit

def wk6 (x : Nd) (ks : List Nd) : Nd := .mk x.kind x.name x.attrs x.text ks
/-- A node with the first one's kids, if it is an element. -/
def fill1 (b : NV) (KL : List (Value × List Nd)) : NV := if b.x.kind == 1 then (match KL with | p :: _ => ⟨wk6 b.x p.2, b.va, p.1⟩ | [] => b) else b
def elsV (M : List NV) : Nat := (M.filter fun b => b.x.kind == 1).length
def fillV : List NV → List (Value × List Nd) → List NV
  | [], _ => []
  | b :: r, KL => fill1 b KL :: fillV r (if b.x.kind == 1 then KL.drop 1 else KL)

theorem fillV_len (M : List NV) : ∀ KL, (fillV M KL).length = M.length := by
  induction M with
  | nil => intro _; rfl
  | cons b r ih => intro KL; rw [fillV, List.length_cons, ih, List.length_cons]

theorem elsV_cons (b : NV) (r : List NV) : elsV (b :: r) = (bif b.x.kind == 1 then 1 else 0) + elsV r := by
  unfold elsV
  rw [List.filter_cons]
  cases (b.x.kind == 1)
  · simp
  · simp; omega

theorem elsV_append (a b : List NV) : elsV (a ++ b) = elsV a + elsV b := by unfold elsV; simp

theorem fillV_snoc (A : List NV) (b : NV) : ∀ KL, fillV (A ++ [b]) KL = fillV A KL ++ [fill1 b (KL.drop (elsV A))] := by
  induction A with
  | nil => intro KL; rfl
  | cons x r ih =>
    intro KL
    rw [List.cons_append, fillV, ih, fillV, elsV_cons]
    cases hk : (x.x.kind == 1)
    · simp
    · simp only [if_true, cond_true, List.cons_append, List.drop_drop]

theorem setKids_cells (A R : List NV) (b : NV) (p : Value × List Nd) (i : Nat) (h : i = A.length) : (cellsV (A ++ b :: R)).set (i * 5 + 4) p.1 = cellsV (A ++ (⟨wk6 b.x p.2, b.va, p.1⟩ : NV) :: R) := by
  subst h
  rw [cellsV_append, cellsV_cons, cellsV_append, cellsV_cons]
  have h5 : (cellsV A).length = A.length * 5 := cellsV_len A
  rw [List.set_append_right _ _ (by omega), h5, show A.length * 5 + 4 - A.length * 5 = 4 by omega]
  obtain ⟨x, va, vk⟩ := b
  cases x
  rfl

/-- 's[1:]' of a row of one cell an element. -/
theorem Row.rest1 {S : Nat → Prop} {w : World} {b off n cap : Nat} {u : Value} {xs : List Value} (h : Row S w 1 (.slice (some ⟨b, off, none⟩) n cap) (xs.length + 1) (u :: xs)) :
    Row S w 1 (.slice (if cap = 1 then some ⟨b, off, none⟩ else some ⟨b, off + 1, none⟩) (n - 1) (cap - 1)) xs.length xs := by
  obtain ⟨h0, a', cap', h1, h2, h3, h4, h5⟩ := h
  cases h1
  obtain ⟨b', off', e, hb, hx⟩ := h5 (by omega)
  cases e
  refine ⟨by simp, _, cap - 1, by rw [show xs.length + 1 - 1 = xs.length by omega], by omega, by omega, (fun e => by split at e <;> cases e), fun hp => ?_⟩
  rw [if_neg (by omega)]
  exact ⟨b, off + 1, rfl, hb, fun j y hj => by
    have := hx (j + 1) y (by simpa using hj)
    rwa [show off + (j + 1) = off + 1 + j by omega] at this⟩

theorem own_atK {w : World} {B g n : Nat} {cap : Nat} {L : List NV} (h : w.ownsRow B 32 5 (.slice (some ⟨g, 0, none⟩) n cap) n (cellsV L)) (i : Nat) (hi : i < L.length) :
    w.cell? ⟨g, i * 5, none⟩ = some (.int .i64 L[i].x.kind) ∧ w.cell? ⟨g, i * 5 + 4, none⟩ = some L[i].vk ∧ w.frozen? ⟨g, i * 5 + 4, none⟩ = false := by
  obtain ⟨c0, c1, c2, c3, c4⟩ := cellsV_at L i hi
  have hc := fun j u hu => h.cells (g := g) rfl j u hu
  refine ⟨by have := hc _ _ c0; rwa [add_plain', Nat.zero_add] at this, by have := hc _ _ c4; rwa [add_plain', Nat.zero_add] at this, ?_⟩
  rcases h.2 with ⟨h', _⟩ | ⟨g', cap', cur, h', _, hg, _⟩
  · cases h'
  · cases h'
    simp [World.frozen?, hg]

/-- A cell stored and a slot assigned, whatever stands between. -/
def WiI (w0 : World) (g o : Nat) (k kv kw : Value) (f : Nat → Bool) (t : Nat → Value) (W : World) : Prop :=
  (f 10 = false → t 10 = kv) ∧ (f 10 = true → t 10 = kw ∧ ∀ j, j < 10 → f j = true) ∧ W = (bif f 9 then w0.setCell ⟨g, o, none⟩ k else w0)

section
variable {w0 W : World} {g o : Nat} {k kv kw : Value} {f : Nat → Bool} {t : Nat → Value}

theorem WiI.start (w0 : World) (g o : Nat) (k kv kw : Value) (t : Nat → Value) (h : t 10 = kv) : WiI w0 g o k kv kw (fun j => decide (11 ≤ j)) t w0 :=
  ⟨fun _ => h, fun e => by simp at e, rfl⟩

theorem WiI.notlast (h : WiI w0 g o k kv kw f t W) {j : Nat} (hj : j < 11) (hf : f j = false) : f 10 = false := by
  cases h10 : f 10
  · rfl
  · rcases Nat.lt_or_ge j 10 with hl | hl
    · have := (h.2.1 h10).2 j hl
      rw [hf] at this
      cases this
    · obtain rfl : j = 10 := by omega
      rw [h10] at hf
      cases hf

theorem WiI.same (h : WiI w0 g o k kv kw f t W) (j : Nat) (v : Value) (h1 : j ≠ 9) (h2 : j ≠ 10) : WiI w0 g o k kv kw (updF f j) (updT t j v) W := by
  refine ⟨fun e => ?_, fun e => ?_, ?_⟩
  · rw [updF_ne f (Ne.symm h2)] at e
    rw [updT_ne _ _ (Ne.symm h2)]
    exact h.1 e
  · rw [updF_ne f (Ne.symm h2)] at e
    rw [updT_ne _ _ (Ne.symm h2)]
    exact ⟨(h.2.1 e).1, fun i hi => by unfold updF; split; rfl; exact (h.2.1 e).2 i hi⟩
  · rw [updF_ne f (Ne.symm h1)]
    exact h.2.2

theorem WiI.first (h : WiI w0 g o k kv kw f t W) (h9 : f 9 = false) : W = w0 := by
  have := h.2.2
  rw [h9] at this
  exact this

theorem WiI.put (h : WiI w0 g o k kv kw f t W) (h9 : f 9 = false) (v : Value) : WiI w0 g o k kv kw (updF f 9) (updT t 9 v) (w0.setCell ⟨g, o, none⟩ k) := by
  refine ⟨fun e => ?_, fun e => ?_, ?_⟩
  · rw [updF_ne f (by omega)] at e
    rw [updT_ne _ _ (by omega)]
    exact h.1 e
  · rw [updF_ne f (by omega)] at e
    have := (h.2.1 e).2 9 (by omega)
    rw [h9] at this
    cases this
  · rw [updF_same]
    rfl

theorem WiI.last (h : WiI w0 g o k kv kw f t W) (hall : ∀ j, j < 10 → f j = true) : WiI w0 g o k kv kw (updF f 10) (updT t 10 kw) W := by
  refine ⟨fun e => by simp at e, fun _ => ⟨by rw [updT_same], fun i hi => by unfold updF; split; rfl; exact hall i hi⟩, ?_⟩
  rw [updF_ne f (by omega)]
  exact h.2.2

theorem WiI.cell (h : WiI w0 g o k kv kw f t W) {b j : Nat} {u : Value} (hne : b ≠ g) (hc : w0.cell? ⟨b, j, .none⟩ = some u) : W.cell? ⟨b, j, .none⟩ = some u := by
  rw [h.2.2]
  cases f 9
  · exact hc
  · show (w0.setCell _ _).cell? _ = _
    rw [World.cell?_of_block (Below.heap_setCell w0 _ _ b hne)]
    exact hc
end

set_option maxHeartbeats 8000000 in
set_option maxRecDepth 100000 in
theorem modWith (B : Nat) (S : Nat → Prop) (v kv : Value) (M : List NV) (KL : List (Value × List Nd)) (w : World) (hown : w.ownsRow B 32 5 v M.length (cellsV M)) (hk : Row S w 1 kv KL.length (KL.map Prod.fst)) (hS : ∀ b, S b → b < w.heap.size ∧ v.ownBlock ≠ some b) (hsl : ∀ p ∈ KL, ∃ a n c, p.1 = .slice a n c) (hl : M.length ≤ 1000000) (hc : elsV M = KL.length) :
    Calls Try.prog 60 #[v, kv] w fun e w' => e = .returned v ∧ w'.ownsRow B 32 5 v M.length (cellsV (fillV M KL)) ∧ w.grownBy w' v.ownBlock := by
  obtain ⟨a, cap, hv⟩ := own_slice hown
  subst hv
  obtain ⟨ak, ck, hkv⟩ := hk.slice
  subst hkv
  have h0 : Hid (fillV (M.take 0) KL ++ M.drop 0 = M) := rfl
  replace hsl := Lib.hid hsl
  replace hS := Lib.hid hS
  obtain ⟨wo, rfl⟩ : ∃ wo : World, wo = w := ⟨_, rfl⟩
  go_enter Try.func60, Try.ntmps60
  go_wp2_with fail
  go_loopw [1, 5, 8] (fun u1 _ u8 wr => ∃ (i : Nat) (M' : List NV), i ≤ M.length ∧ u8 = .int .i64 (i : Int) ∧ Hid (fillV (M.take i) KL ++ M.drop i = M') ∧ Row S wr 1 u1 (KL.drop (elsV (M.take i))).length ((KL.drop (elsV (M.take i))).map Prod.fst) ∧ wr.ownsRow B 32 5 (.slice a M.length cap) M.length (cellsV M') ∧ wo.grownBy wr (Value.slice a M.length cap).ownBlock) (fun _ _ u8 _ => M.length - (intOf u8).toNat)
  case atStart => exact ⟨0, M, by omega, rfl, h0, hk, hown, ⟨rfl, rfl, rfl, Nat.le_refl _, fun _ _ _ => rfl⟩⟩
  case round =>
    obtain ⟨i, M', hi, rfl, hM', hkr, hownr, hgr⟩ := hrel
    by_cases hlt : i < M.length
    · have htk : M.take (i + 1) = M.take i ++ [M[i]] := List.take_succ_eq_append_getElem hlt
      have hdr : M.drop i = M[i] :: M.drop (i + 1) := List.drop_eq_getElem_cons hlt
      have hfl : (fillV (M.take i) KL).length = i := by rw [fillV_len, List.length_take]; omega
      have hM'' := hM'.out
      rw [hdr] at hM''
      have hM'l : M'.length = M.length := by rw [← hM'.out, List.length_append, hfl, List.length_drop]; omega
      have hMi : M'[i]? = some M[i] := by rw [← hM'', List.getElem?_append_right (by omega), hfl, Nat.sub_self]; rfl
      have hMi2 : M'[i]'(by omega) = M[i] := Option.some.inj (by rw [← List.getElem?_eq_getElem]; exact hMi)
      obtain ⟨g, cap', e, hg1, hg2⟩ := hownr.form (by omega)
      cases e
      obtain ⟨q0, q4, f4⟩ := own_atK hownr i (by omega)
      rw [hMi2] at q0 q4
      clear hMi hMi2
      have hI0 : (0 : Int) ≤ (i : Int) := by omega
      have hI1 : (i : Int) < (M.length : Int) := by omega
      have hcap : M.length ≤ cap := by
        rcases hownr.2 with ⟨h', _⟩ | ⟨g', cap', cur, h', _, _, q1, q2, _⟩
        · cases h'
        · cases h'; exact q1
      have hes : elsV M = elsV (M.take i) + ((bif M[i].x.kind == 1 then 1 else 0) + elsV (M.drop (i + 1))) := by rw [← elsV_cons, ← hdr, ← elsV_append, List.take_append_drop]
      have hsn := fillV_snoc (M.take i) M[i] KL
      rw [← htk] at hsn
      have he1 : elsV (M.take (i + 1)) = elsV (M.take i) + (bif M[i].x.kind == 1 then 1 else 0) := by rw [htk, elsV_append, elsV_cons]; rfl
      clear htk hdr hM'
      generalize M[i] = b at *
      obtain ⟨⟨k, n, ats, tx, ks⟩, va, vk⟩ := b
      simp only [Nd.kind] at q0 hes he1
      cases hk1 : (k == 1)
      · have he1 : elsV (M.take (i + 1)) = elsV (M.take i) := by rw [he1, hk1]; rfl
        rw [← he1] at hkr
        have hnx : Hid (fillV (M.take (i + 1)) KL ++ M.drop (i + 1) = M') := by
          show _ = _
          have : fill1 ⟨.mk k n ats tx ks, va, vk⟩ (KL.drop (elsV (M.take i))) = ⟨.mk k n ats tx ks, va, vk⟩ := by unfold fill1; rw [if_neg (by show ¬ (k == 1) = true; rw [hk1]; exact Bool.false_ne_true)]
          rw [hsn, this, List.append_assoc]
          exact hM''
        clear hsn hM'' hes
        replace hkr := Lib.hid hkr
        replace hownr := Lib.hid hownr
        replace hgr := Lib.hid hgr
        go_wp2_with fail
        go_roundw
        case rel => exact ⟨i + 1, M', by omega, by go_num, hnx, hkr.out, hownr.out, hgr.out⟩
        case measure => exact meas_nat hlt
      · obtain rfl : k = 1 := by simpa using hk1
        simp only [beq_self_eq_true, cond_true] at he1 hes
        have hlt2 : elsV (M.take i) < KL.length := by omega
        have hdk : KL.drop (elsV (M.take i)) = KL[elsV (M.take i)] :: KL.drop (elsV (M.take i) + 1) := List.drop_eq_getElem_cons hlt2
        obtain ⟨a8, n8, c8, e8⟩ := hsl.out _ (List.getElem_mem hlt2)
        rw [hdk] at hkr hsn
        rw [← he1] at hkr hsn
        generalize KL[elsV (M.take i)] = pk at *
        obtain ⟨kv8, l8⟩ := pk
        have e8 : kv8 = .slice a8 n8 c8 := e8
        subst e8
        rw [List.map_cons, List.length_cons] at hkr
        obtain ⟨KR, hKR⟩ : ∃ KR, KL.drop (elsV (M.take (i + 1))) = KR := ⟨_, rfl⟩
        rw [hKR] at hkr hsn
        replace hKR := Lib.hid hKR
        rw [show KR.length = (KR.map Prod.fst).length by rw [List.length_map]] at hkr
        obtain ⟨ar, cr, hu1⟩ := hkr.slice
        subst hu1
        obtain ⟨b0, off0, ea, hSb, hcell⟩ : ∃ b0 off0, ar = some ⟨b0, off0, none⟩ ∧ S b0 ∧ wr.cell? ⟨b0, off0, none⟩ = some (.slice a8 n8 c8) := by
          obtain ⟨_, a', cap', h1, h2, h3, h4, h5⟩ := hkr
          cases h1
          obtain ⟨b0, off0, e, h6, h7⟩ := h5 (by omega)
          exact ⟨b0, off0, e, h6, by simpa using h7 0 _ rfl⟩
        subst ea
        obtain ⟨_, hlr, hcr⟩ := hkr.len
        have hrest := hkr.rest1
        have hbl := (hS.out b0 hSb).1
        have hbn : b0 ≠ g := fun e => (hS.out b0 hSb).2 (by rw [e]; rfl)
        rw [List.length_map] at hlr hrest
        have hcr1 : (KR.map Prod.fst).length + 1 = KR.length + 1 := by rw [List.length_map]
        rw [hcr1] at hkr ⊢
        clear hkr
        go_wp2_with fail
        refine wp_region_known (n := 11) ([some (Value.slice (some ⟨g, 0, none⟩) M.length cap), some (Value.int IntKind.i64 (i : Int)), some (.slice (some ⟨b0, off0, none⟩) (KR.length + 1) cr), some (.pointer (some ⟨b0, off0, none⟩)), some (.slice a8 n8 c8), some (.slice (some ⟨b0, off0, none⟩) (KR.length + 1) cr), some (.slice (if cr = 1 then some ⟨b0, off0, none⟩ else some ⟨b0, off0 + 1, none⟩) KR.length (cr - 1)), some (.pointer (some ⟨g, i * 5, none⟩)), some (.pointer (some ⟨g, i * 5 + 4, none⟩)), none, some (.slice (if cr = 1 then some ⟨b0, off0, none⟩ else some ⟨b0, off0 + 1, none⟩) KR.length (cr - 1))] : List (Option Value)) (fun t => ⟨#[Value.slice (some ⟨g, 0, none⟩) M.length cap, t 10, undef, undef, Value.slice none 0 0, Value.int IntKind.i64 (i : Int), Value.slice (some ⟨g, 0, none⟩) M.length cap, Value.int IntKind.i64 (M.length : Int), Value.int IntKind.i64 (i : Int), Value.bool true, Value.int IntKind.i64 (i : Int), Value.slice (some ⟨g, 0, none⟩) M.length cap, Value.int IntKind.i64 (i : Int), Value.pointer (some ⟨g, i * 5, none⟩), Value.pointer (some ⟨g, i * 5, none⟩), Value.int IntKind.i64 1, Value.bool true, t 0, t 1, t 2, t 3, t 4, t 5, t 6, t 7, t 8, u26, undef], []⟩) (fun f t W => WiI wr.drew g (i * 5 + 4) (.slice a8 n8 c8) (.slice (some ⟨b0, off0, none⟩) (KR.length + 1) cr) (.slice (if cr = 1 then some ⟨b0, off0, none⟩ else some ⟨b0, off0 + 1, none⟩) KR.length (cr - 1)) f t W) (fun j => match j with | 0 => u17 | 1 => u18 | 2 => u19 | 3 => u20 | 4 => u21 | 5 => u22 | 6 => u23 | 7 => u24 | 8 => u25 | 10 => Value.slice (some ⟨b0, off0, none⟩) (KR.length + 1) cr | _ => undef) (by kernel_rfl) (by rfl) (by rfl) (by kernel_rfl) rfl ?i0 ?step ?fin
        case i0 =>
          exact WiI.start _ _ _ _ _ _ _ rfl
        case step =>
          intro j0 hj0 f t W hfi hwt hk2 hI
          have h10 := hI.notlast hj0 hfi
          obtain rfl | rfl | rfl | rfl | rfl | rfl | rfl | rfl | rfl | rfl | rfl : j0 = 0 ∨ j0 = 1 ∨ j0 = 2 ∨ j0 = 3 ∨ j0 = 4 ∨ j0 = 5 ∨ j0 = 6 ∨ j0 = 7 ∨ j0 = 8 ∨ j0 = 9 ∨ j0 = 10 := by omega
          · -- operation 0
            clear h10
            replace hI := Lib.hid hI
            replace hk2 := Lib.hid hk2
            clear hwt
            refine wpOp_step rfl (fun K hK => ?_)
            go_simp
            exact hK _ _ ⟨_, by simp [updT], hk2.out.at_ rfl, hI.out.same _ _ (by decide) (by decide)⟩
          · -- operation 1
            clear h10
            replace hI := Lib.hid hI
            replace hk2 := Lib.hid hk2
            clear hwt
            refine wpOp_step rfl (fun K hK => ?_)
            go_simp
            exact hK _ _ ⟨_, by simp [updT], hk2.out.at_ rfl, hI.out.same _ _ (by decide) (by decide)⟩
          · -- operation 2
            have e10 := hI.1 h10
            replace hk2 := Lib.hid hk2
            replace hI := Lib.hid hI
            clear hwt
            refine wpOp_step rfl (fun K hK => ?_)
            go_simp
            exact hK _ _ ⟨_, by simp [updT, e10], hk2.out.at_ rfl, hI.out.same _ _ (by decide) (by decide)⟩
          · -- operation 3
            have e2 : t 2 = .slice (some ⟨b0, off0, none⟩) (KR.length + 1) cr := hk2 2 _ (hwt 2 (by kernel_rfl)) rfl
            clear h10
            replace hI := Lib.hid hI
            replace hk2 := Lib.hid hk2
            clear hwt
            refine wpOp_step rfl (fun K hK => ?_)
            go_simp
            exact hK _ _ ⟨_, by simp [updT, e2], hk2.out.at_ rfl, hI.out.same _ _ (by decide) (by decide)⟩
          · -- operation 4
            have e3 : t 3 = .pointer (some ⟨b0, off0, none⟩) := hk2 3 _ (hwt 3 (by kernel_rfl)) rfl
            have s0 := hI.cell hbn hcell
            replace hk2 := Lib.hid hk2
            replace hI := Lib.hid hI
            clear hwt
            refine wpOp_step rfl (fun K hK => ?_)
            go_simp
            exact hK _ _ ⟨_, by simp [updT, e3], hk2.out.at_ rfl, hI.out.same _ _ (by decide) (by decide)⟩
          · -- operation 5
            have e10 := hI.1 h10
            replace hk2 := Lib.hid hk2
            replace hI := Lib.hid hI
            clear hwt
            refine wpOp_step rfl (fun K hK => ?_)
            go_simp
            exact hK _ _ ⟨_, by simp [updT, e10], hk2.out.at_ rfl, hI.out.same _ _ (by decide) (by decide)⟩
          · -- operation 6
            have e5 : t 5 = .slice (some ⟨b0, off0, none⟩) (KR.length + 1) cr := hk2 5 _ (hwt 5 (by kernel_rfl)) rfl
            replace hk2 := Lib.hid hk2
            replace hI := Lib.hid hI
            clear hwt
            refine wpOp_step rfl (fun K hK => ?_)
            go_simp
            rw [if_pos (by omega)]
            exact hK _ _ ⟨_, by simp [updT, Act.put, e5], hk2.out.at_ rfl, hI.out.same _ _ (by decide) (by decide)⟩
          · -- operation 7
            have e0 : t 0 = Value.slice (some ⟨g, 0, none⟩) M.length cap := hk2 0 _ (hwt 0 (by kernel_rfl)) rfl
            have e1 : t 1 = Value.int IntKind.i64 (i : Int) := hk2 1 _ (hwt 1 (by kernel_rfl)) rfl
            clear h10
            replace hI := Lib.hid hI
            replace hk2 := Lib.hid hk2
            clear hwt
            refine wpOp_step rfl (fun K hK => ?_)
            go_simp
            exact hK _ _ ⟨_, by simp [updT, e0, e1], hk2.out.at_ rfl, hI.out.same _ _ (by decide) (by decide)⟩
          · -- operation 8
            have e7 : t 7 = .pointer (some ⟨g, i * 5, none⟩) := hk2 7 _ (hwt 7 (by kernel_rfl)) rfl
            clear h10
            replace hI := Lib.hid hI
            replace hk2 := Lib.hid hk2
            clear hwt
            refine wpOp_step rfl (fun K hK => ?_)
            go_simp
            exact hK _ _ ⟨_, by simp [updT, e7], hk2.out.at_ rfl, hI.out.same _ _ (by decide) (by decide)⟩
          · -- operation 9
            have e4 : t 4 = .slice a8 n8 c8 := hk2 4 _ (hwt 4 (by kernel_rfl)) rfl
            have e8 : t 8 = .pointer (some ⟨g, i * 5 + 4, none⟩) := hk2 8 _ (hwt 8 (by kernel_rfl)) rfl
            have hput := hI.put hfi undef
            have hW := hI.first hfi
            subst hW
            have q4' : wr.drew.cell? ⟨g, i * 5 + 4, none⟩ = some vk := q4
            have f4' : wr.drew.frozen? ⟨g, i * 5 + 4, none⟩ = false := f4
            replace hput := Lib.hid hput
            replace hk2 := Lib.hid hk2
            replace hI := Lib.hid hI
            clear hwt
            refine wpOp_step rfl (fun K hK => ?_)
            go_simp
            exact hK _ _ ⟨undef, by simp [updT, e4, e8], hk2.out.free rfl, hput.out⟩
          · -- operation 10
            have e6 : t 6 = .slice (if cr = 1 then some ⟨b0, off0, none⟩ else some ⟨b0, off0 + 1, none⟩) KR.length (cr - 1) := hk2 6 _ (hwt 6 (by kernel_rfl)) rfl
            have hall : ∀ j, j < 10 → f j = true := fun j hj => by
              rcases (by omega : j = 0 ∨ j = 1 ∨ j = 2 ∨ j = 3 ∨ j = 4 ∨ j = 5 ∨ j = 6 ∨ j = 7 ∨ j = 8 ∨ j = 9) with rfl | rfl | rfl | rfl | rfl | rfl | rfl | rfl | rfl | rfl <;> exact hwt _ (by kernel_rfl)
            have hlast := Lib.hid (hI.last hall)
            clear hall
            replace hk2 := Lib.hid hk2
            replace hI := Lib.hid hI
            clear hwt
            refine wpOp_step rfl (fun K hK => ?_)
            go_simp
            exact hK _ _ ⟨_, by simp [updT, e6], hk2.out.at_ rfl, hlast.out⟩
        case fin =>
          intro f t W hall hk2 hI
          obtain ⟨e10, _⟩ := hI.2.1 (hall 10 (by omega))
          have hW := hI.2.2
          rw [hall 9 (by omega)] at hW
          change W = wr.drew.setCell ⟨g, i * 5 + 4, none⟩ (.slice a8 n8 c8) at hW
          clear hk2 hall hI
          subst hW
          try dsimp only
          rw [e10]
          have hownd : wr.drew.ownsRow B 32 5 (.slice (some ⟨g, 0, none⟩) M.length cap) M.length (cellsV M') := own_keep hownr (fun _ _ => rfl)
          obtain ⟨hst, hgs⟩ := hownd.stored (i * 5 + 4) (.slice a8 n8 c8)
          have hkrS : Row S (wr.drew.setCell ⟨g, i * 5 + 4, none⟩ (.slice a8 n8 c8)) 1 (.slice (if cr = 1 then some ⟨b0, off0, none⟩ else some ⟨b0, off0 + 1, none⟩) KR.length (cr - 1)) KR.length (KR.map Prod.fst) :=
            Row.keep hrest (fun c hc => Below.heap_setCell wr.drew _ _ c (fun e => (hS.out c hc).2 (by rw [e]; rfl)))
          have hgS : wo.grownBy (wr.drew.setCell ⟨g, i * 5 + 4, none⟩ (.slice a8 n8 c8)) (Value.slice (some ⟨g, 0, none⟩) M.length cap).ownBlock := hgr.trans ((show wr.grownBy wr.drew (some g) from ⟨rfl, rfl, rfl, Nat.le_refl _, fun _ _ _ => rfl⟩).trans hgs)
          rw [← hM'', setKids_cells (fillV (M.take i) KL) (M.drop (i + 1)) ⟨.mk 1 n ats tx ks, va, vk⟩ (.slice a8 n8 c8, l8) i hfl.symm] at hst
          have hf1 : fill1 ⟨.mk 1 n ats tx ks, va, vk⟩ ((.slice a8 n8 c8, l8) :: KR) = ⟨wk6 (.mk 1 n ats tx ks) l8, va, .slice a8 n8 c8⟩ := rfl
          rw [hf1] at hsn
          have hnx : Hid (fillV (M.take (i + 1)) KL ++ M.drop (i + 1) = fillV (M.take i) KL ++ (⟨wk6 (.mk 1 n ats tx ks) l8, va, .slice a8 n8 c8⟩ : NV) :: M.drop (i + 1)) := by
            show _ = _
            rw [hsn, List.append_assoc]; rfl
          clear hownd hgs hrest hgr hownr hsn hM''
          replace hst := Lib.hid hst
          replace hgS := Lib.hid hgS
          replace hkrS := Lib.hid hkrS
          go_wp2_with fail
          go_roundw
          case rel => exact ⟨i + 1, _, by omega, by go_num, hnx, by rw [hKR.out]; exact hkrS.out, hst.out, hgS.out⟩
          case measure => exact meas_nat hlt
    · obtain rfl : i = M.length := by omega
      have hM2 := hM'.out
      rw [List.take_length, List.drop_length, List.append_nil] at hM2
      subst hM2
      replace hownr := Lib.hid hownr
      go_wp2_with fail
      go_ret
      exact ⟨rfl, hownr.out, hgr⟩
end Go.Proofs.Ytbnfaijkmbgpmaa

/- Nodes merged without their kids, and the kids put back. -/
namespace Go.Proofs.Ytbnfaijkmbgpmaa
open Go.RowKit

def stripN (x : Nd) : Nd := wk6 x []
def isEl (x : Nd) : Bool := x.kind == 1

theorem strip_push (out : List Nd) (x : Nd) : (M3.push out x).map stripN = M3.push (out.map stripN) (stripN x) := by
  have hb : M3.bareB (stripN x) = M3.bareB x := rfl
  cases h : M3.bareB x
  · rcases List.eq_nil_or_concat out with rfl | ⟨o, y, rfl⟩
    · rw [M3.push_none h, List.map_nil, M3.push_none (by rw [hb]; exact h)]; rfl
    · rw [List.concat_eq_append, M3.push_snoc h, List.map_append, List.map_cons, List.map_nil, M3.push_snoc (by rw [hb]; exact h)]
      have e1 : M3.isText (stripN x) = M3.isText x := rfl
      have e2 : M3.isText (stripN y) = M3.isText y := rfl
      rw [e1, e2]
      split
      · rw [List.map_append, List.map_cons, List.map_nil]
        congr 1
      · rw [List.map_append, List.map_append, List.map_cons, List.map_nil, List.map_cons, List.map_nil]
  · rw [M3.push_bare h, M3.push_bare (by rw [hb]; exact h)]

theorem strip_merge (l : List Nd) : M3.merge (l.map stripN) = (M3.merge l).map stripN := by
  have key : ∀ (l out : List Nd), (l.map stripN).foldl M3.push (out.map stripN) = (l.foldl M3.push out).map stripN := by
    intro l
    induction l with
    | nil => intro out; rfl
    | cons x r ih => intro out; rw [List.map_cons, List.foldl_cons, List.foldl_cons, ← strip_push, ih]
  exact key l []

theorem el_push (out : List Nd) (x : Nd) : (M3.push out x).filter isEl = out.filter isEl ++ [x].filter isEl := by
  cases h : M3.bareB x
  · rcases List.eq_nil_or_concat out with rfl | ⟨o, y, rfl⟩
    · rw [M3.push_none h]; rfl
    · rw [List.concat_eq_append, M3.push_snoc h]
      split
      · rename_i ht
        rw [Bool.and_eq_true] at ht
        have hx : isEl x = false := by
          have hk : x.kind = 2 := by simpa [M3.isText] using ht.1
          unfold isEl; rw [hk]; rfl
        have hy : isEl y = false := by
          have hk : y.kind = 2 := by simpa [M3.isText] using ht.2
          unfold isEl; rw [hk]; rfl
        have hy2 : isEl (M3.withText y (M3.cat y.text x.text)) = false := by rw [← hy]; cases y; rfl
        rw [List.filter_append, List.filter_append, List.filter_cons_of_neg (by rw [hy2]; exact Bool.false_ne_true), List.filter_cons_of_neg (by rw [hy]; exact Bool.false_ne_true), List.filter_cons_of_neg (by rw [hx]; exact Bool.false_ne_true)]
        simp
      · rw [List.filter_append]
  · rw [M3.push_bare h]
    have hx : isEl x = false := by
      have : x.kind = 2 := by
        unfold M3.bareB at h
        rw [Bool.and_eq_true] at h
        simpa [M3.isText] using h.1
      unfold isEl; rw [this]; rfl
    rw [List.filter_cons_of_neg (by rw [hx]; exact Bool.false_ne_true)]
    simp

theorem el_merge (l : List Nd) : (M3.merge l).filter isEl = l.filter isEl := by
  have key : ∀ (l out : List Nd), (l.foldl M3.push out).filter isEl = out.filter isEl ++ l.filter isEl := by
    intro l
    induction l with
    | nil => intro out; simp
    | cons x r ih => intro out; rw [List.foldl_cons, ih, el_push, List.append_assoc, ← List.filter_append]; rfl
  have := key l []
  simpa [M3.merge] using this

def fillN : List Nd → List (List Nd) → List Nd
  | [], _ => []
  | x :: r, K => (if isEl x = true then (match K with | k :: _ => wk6 x k | [] => x) else x) :: fillN r (if isEl x = true then K.drop 1 else K)

def fillN1 (x : Nd) (K : List (List Nd)) : Nd := if isEl x = true then (match K with | k :: _ => wk6 x k | [] => x) else x

theorem fillN_cons (x : Nd) (r : List Nd) (K : List (List Nd)) : fillN (x :: r) K = fillN1 x K :: fillN r (if isEl x = true then K.drop 1 else K) := rfl

theorem fillV_map (M : List NV) : ∀ KL, (fillV M KL).map NV.x = fillN (M.map NV.x) (KL.map Prod.snd) := by
  induction M with
  | nil => intro _; rfl
  | cons b r ih =>
    intro KL
    rw [fillV, List.map_cons, ih, List.map_cons, fillN_cons]
    unfold fill1 fillN1 isEl
    cases hk : (b.x.kind == 1)
    · simp
    · cases KL with
      | nil => simp
      | cons p KR => simp

/-- The kids put back. -/
theorem fill_back (R : List Nd) (h : ∀ x ∈ R, isEl x = false → x.kids = []) : fillN (R.map stripN) ((R.filter isEl).map Nd.kids) = R := by
  induction R with
  | nil => rfl
  | cons x r ih =>
    have ih := ih (fun y hy => h y (by simp [hy]))
    rw [List.map_cons, fillN_cons]
    unfold fillN1
    have e : isEl (stripN x) = isEl x := rfl
    rw [e]
    cases hx : isEl x
    · have hk := h x (by simp) hx
      rw [List.filter_cons_of_neg (by rw [hx]; exact Bool.false_ne_true), if_neg Bool.false_ne_true, if_neg Bool.false_ne_true, ih]
      congr 1
      cases x
      have hk : _ = [] := hk
      subst hk
      rfl
    · rw [List.filter_cons_of_pos hx, List.map_cons, if_pos rfl, if_pos rfl, List.drop_succ_cons, List.drop_zero, ih]
      congr 1
      cases x
      rfl

theorem mem_fillV {b : NV} (M : List NV) : ∀ KL, b ∈ fillV M KL → ∃ b0 ∈ M, b = b0 ∨ ∃ p ∈ KL, b = ⟨wk6 b0.x p.2, b0.va, p.1⟩ := by
  induction M with
  | nil => intro _ h; exact (nomatch h)
  | cons x r ih =>
    intro KL h
    rw [fillV] at h
    rcases List.mem_cons.1 h with h | h
    · refine ⟨x, by simp, ?_⟩
      unfold fill1 at h
      split at h
      · cases KL with
        | nil => exact Or.inl h
        | cons p KR => exact Or.inr ⟨p, by simp, h⟩
      · exact Or.inl h
    · obtain ⟨b0, h1, h2⟩ := ih _ h
      refine ⟨b0, by simp [h1], ?_⟩
      rcases h2 with h2 | ⟨p, hp, h2⟩
      · exact Or.inl h2
      · refine Or.inr ⟨p, ?_, h2⟩
        split at hp
        · exact List.mem_of_mem_drop hp
        · exact hp

/-- Nodes made stable in that parent. -/
def steadyIn (p : ByteArray) (l : List Nd) : List Nd := (M3.merge (M6.steadyQ (M6.fitsB p) l)).filter (M6.fitsB p)

theorem steadyIn_outside (l : List Nd) : steadyIn ⟨#[]⟩ l = M6.steady l := by
  unfold steadyIn M6.steady
  rw [List.filter_eq_self.2 (fun x _ => fits_outside x), show M6.fitsB ⟨#[]⟩ = fun _ => true from funext fits_outside]

theorem okP_kids {x : Nd} (h : M3.okP x) (hk : isEl x = false) : x.kids = [] := by
  unfold M3.okP at h
  cases ht : M3.isText x
  · rw [ht, if_neg Bool.false_ne_true] at h
    have h2 : ¬ x.kind = 2 := by simpa [M3.isText] using ht
    have h1 : ¬ x.kind = 1 := by simpa [isEl] using hk
    have h3 := h.1
    unfold M3.oneE at h3
    rw [if_neg h1, if_neg h2] at h3
    split at h3
    · split at h3
      · rename_i hp
        exact M3.plain_kids hp
      · exact absurd h3 (by decide)
    · exact absurd h3 (by decide)
  · rw [ht, if_pos rfl] at h
    exact M3.plain_kids h.1

theorem fits_strip (p : ByteArray) (x : Nd) : M6.fitsB p (stripN x) = M6.fitsB p x := rfl

theorem filter_strip (p : ByteArray) (l : List Nd) : (l.map stripN).filter (M6.fitsB p) = (l.filter (M6.fitsB p)).map stripN := by
  rw [List.filter_map]; rfl

/-- Unless it is raw, all that fitted fits when merged. -/
theorem merged_fits (p : ByteArray) (l : List Nd) (hr : M3.rawB p.data.toList = false) : (M3.merge (M6.steadyQ (M6.fitsB p) l)).filter (M6.fitsB p) = M3.merge (M6.steadyQ (M6.fitsB p) l) := by
  refine List.filter_eq_self.2 ?_
  refine M3.merge_all (P := fun x => M6.fitsB p x = true) (fun x y hx _ h1 _ => ?_) _ (fun y hy => ?_)
  · unfold M6.fitsB at hx ⊢
    have hk : x.kind = 2 := by simpa [M3.isText] using h1
    cases hv : M3.voidB p.data.toList
    · rw [hr, if_neg Bool.false_ne_true, if_neg Bool.false_ne_true, show (M3.withText x (M3.cat x.text y.text)).kind = x.kind from by cases x; rfl, hk]
      rfl
    · rw [hv, if_pos rfl] at hx
      exact absurd hx Bool.false_ne_true
  · obtain ⟨x, _, hq, _, rfl⟩ := M6.steady_from _ _ y hy
    unfold M6.fitsB at *
    rw [M6.oneN_kind, M6.oneN_name]
    cases hv : M3.voidB p.data.toList
    · rw [hv, hr, if_neg Bool.false_ne_true, if_neg Bool.false_ne_true] at hq
      rw [hr, if_neg Bool.false_ne_true, if_neg Bool.false_ne_true]
      exact hq
    · rw [hv, if_pos rfl] at hq
      exact absurd hq Bool.false_ne_true

theorem raw_texts (p : ByteArray) (l : List Nd) (hr : M3.rawB p.data.toList = true) : ∀ y ∈ M6.steadyQ (M6.fitsB p) l, M3.isText y = true := by
  intro y hy
  obtain ⟨x, _, hq, _, rfl⟩ := M6.steady_from _ _ y hy
  unfold M6.fitsB at hq
  cases hv : M3.voidB p.data.toList
  · rw [hv, hr, if_neg Bool.false_ne_true, if_pos rfl, Bool.and_eq_true] at hq
    unfold M3.isText at *
    rw [M6.oneN_kind]
    exact hq.1
  · rw [hv, if_pos rfl] at hq
    exact absurd hq Bool.false_ne_true

theorem texts_merged (l : List Nd) (h : ∀ y ∈ l, M3.isText y = true) : (M3.merge l).length ≤ 1 := by
  have key : ∀ (l out : List Nd), (∀ y ∈ l, M3.isText y = true) → (∀ y ∈ out, M3.isText y = true) → out.length ≤ 1 → (l.foldl M3.push out).length ≤ 1 := by
    intro l
    induction l with
    | nil => intro out _ _ h; exact h
    | cons x r ih =>
      intro out hl ho h
      have hx := hl x (by simp)
      rw [List.foldl_cons]
      cases hb : M3.bareB x
      · rcases List.eq_nil_or_concat out with rfl | ⟨o, y, rfl⟩
        · rw [M3.push_none hb]
          exact ih _ (fun z hz => hl z (by simp [hz])) (fun z hz => by rw [List.mem_singleton] at hz; rw [hz]; exact hx) (by simp)
        · rw [List.concat_eq_append] at ho h ⊢
          have hy := ho y (by simp)
          rw [M3.push_snoc hb, hx, hy, Bool.and_self, if_pos rfl]
          refine ih _ (fun z hz => hl z (by simp [hz])) (fun z hz => ?_) (by simpa using h)
          rcases List.mem_append.1 hz with hz | hz
          · exact ho z (by simp [hz])
          · rw [List.mem_singleton] at hz
            rw [hz, ← hy]; cases y; rfl
      · rw [M3.push_bare hb]
        exact ih _ (fun z hz => hl z (by simp [hz])) ho h
  exact key l [] h (fun y hy => nomatch hy) (by simp)
end Go.Proofs.Ytbnfaijkmbgpmaa

/- Package model: nodes made stable. -/
namespace Go.Proofs.Ytbnfaijkmbgpmaa
open Go.RowKit

/-- Nodes in rows that the call has made. -/
def NewPost (l : List Nd) (w : World) (e : Ending) (w' : World) : Prop := ∃ v', e = .returned v' ∧ RepN (fun b => w.heap.size ≤ b ∧ b < w'.heap.size) w' v' l ∧ Below w.heap.size w w'

theorem infoSl : (Try.prog.info? 27).map (fun i => (i.zero, i.size, i.bytes)) = some (some (.slice none 0 0), 1, 24) := by kernel_rfl

/-- Blocks made since, beside two rows that grow. -/
def KSet (wo : World) (u5 u6 : Value) (W : World) : Nat → Prop := fun c => (wo.heap.size ≤ c ∧ c < W.heap.size) ∧ u5.ownBlock ≠ some c ∧ u6.ownBlock ≠ some c

/-- Two rows that grow side by side: nodes without kids, and the kids of the elements among them. -/
structure Two (S : Nat → Prop) (wo wr : World) (u5 u6 : Value) (A : List NV) (K : List (Value × List Nd)) : Prop where
  bare : wr.ownsRow wo.heap.size 32 5 u5 A.length (cellsV A)
  kids : wr.ownsRow wo.heap.size 27 1 u6 K.length (K.map Prod.fst)
  ne : ∀ g, u5.ownBlock = some g → u6.ownBlock ≠ some g
  at_ : ∀ b ∈ A, RepV S wo b.x b.va b.vk
  reps : ∀ q ∈ K, RepN (KSet wo u5 u6 wr) wr q.1 q.2
  below : Below wo.heap.size wo wr

theorem Two.start (S : Nat → Prop) (wo : World) : Two S wo wo (.slice none 0 0) (.slice none 0 0) [] [] :=
  ⟨World.ownsRow_nil _ _ _ _, World.ownsRow_nil _ _ _ _, fun _ h => (nomatch h), fun _ h => (nomatch h), fun _ h => (nomatch h), Below.refl _ _⟩

theorem Two.next {S : Nat → Prop} {wo wr W : World} {u5 u6 : Value} {A : List NV} {K : List (Value × List Nd)} (h : Two S wo wr u5 u6 A K) (hb : Below wr.heap.size wr W) : Two S wo W u5 u6 A K :=
  ⟨own_below3 h.bare hb, own_below3 h.kids hb, h.ne, h.at_, fun q hq => (RepN.below (h.reps q hq) (fun c hc => hc.1.2) hb).mono (fun c hc => ⟨⟨hc.1.1, by have := hb.size; have := hc.1.2; omega⟩, hc.2⟩), bt h.below hb⟩

theorem Two.grow {S : Nat → Prop} {wo wr W : World} {u5 u6 u5' u6' : Value} {A : List NV} {K : List (Value × List Nd)} (h : Two S wo wr u5 u6 A K)
    (hkeep : ∀ c, c < wr.heap.size → u5.ownBlock ≠ some c → u6.ownBlock ≠ some c → W.heap[c]? = wr.heap[c]?) (hz : wr.heap.size ≤ W.heap.size)
    (h5 : ∀ c, c < wr.heap.size → u5'.ownBlock = some c → u5.ownBlock = some c) (h6 : ∀ c, c < wr.heap.size → u6'.ownBlock = some c → u6.ownBlock = some c) (q : Value × List Nd) (hq : q ∈ K) : RepN (KSet wo u5' u6' W) W q.1 q.2 :=
  ((h.reps q hq).keep (w' := W) (fun c hc => hkeep c hc.1.2 hc.2.1 hc.2.2)).mono (fun c hc => ⟨⟨hc.1.1, by have := hc.1.2; omega⟩, fun e => hc.2.1 (h5 c hc.1.2 e), fun e => hc.2.2 (h6 c hc.1.2 e)⟩)

theorem steadyQ_app (q : Nd → Bool) (a b : List Nd) : M6.steadyQ q (a ++ b) = M6.steadyQ q a ++ M6.steadyQ q b := by
  induction a with
  | nil => rw [M6.steadyQ_nil]; rfl
  | cons x r ih => rw [List.cons_append, M6.steadyQ_cons, M6.steadyQ_cons, ih, List.append_assoc]

theorem lasts_take (p : ByteArray) (l : List Nd) (i : Nat) (h : i < l.length) : M6.steadyQ (M6.fitsB p) (l.take (i + 1)) = M6.steadyQ (M6.fitsB p) (l.take i) ++ (if lastsB p l[i] = true then [M6.oneN l[i]] else []) := by
  rw [List.take_succ_eq_append_getElem h, steadyQ_app, M6.steadyQ_cons, M6.steadyQ_nil, List.append_nil]
  unfold lastsB
  cases M6.remB l[i] <;> cases M6.fitsB p l[i] <;> rfl

theorem oneN_strip (x : Nd) : stripN (M6.oneN x) = stripN x := by
  unfold M6.oneN
  split
  · rfl
  · rfl

theorem oneN_el (x : Nd) (h : isEl x = true) : isEl (M6.oneN x) = true ∧ (M6.oneN x).kids = steadyIn x.name x.kids := by
  have hk : x.kind = 1 := by simpa [isEl] using h
  unfold M6.oneN
  rw [if_pos hk]
  exact ⟨h, rfl⟩

theorem ownB_ne6 {w : World} {B : Nat} {e : TypeId} {k n : Nat} {v : Value} {xs : List Value} (h : w.ownsRow B e k v n xs) {c : Nat} (hc : c < B ∨ w.heap.size ≤ c) : v.ownBlock ≠ some c := fun e => by
  have := h.lt c e
  omega

theorem weight_strip (l : List Nd) : M3.weight (l.map stripN) ≤ M3.weight l := by
  induction l with
  | nil => exact Nat.le_refl _
  | cons x r ih =>
    rw [List.map_cons, M3.weight_cons, M3.weight_cons]
    show 1 + x.attrs.length + M3.weight [] + _ ≤ _
    rw [M3.weight_nil]
    omega

theorem txt_strip (l : List Nd) : txtN (l.map stripN) = txtN l := by
  induction l with
  | nil => rfl
  | cons x r ih => rw [List.map_cons, txtN_cons, txtN_cons, ih]; rfl

theorem elsV_map (M : List NV) : elsV M = ((M.map NV.x).filter isEl).length := by
  unfold elsV
  rw [List.filter_map, List.length_map]
  rfl

theorem el_strip (l : List Nd) : ((l.map stripN).filter isEl).length = (l.filter isEl).length := by
  rw [List.filter_map, List.length_map]
  rfl

theorem merged_strip (p : ByteArray) (l : List Nd) : (if M3.rawB p.data.toList = true then (M3.merge ((M6.steadyQ (M6.fitsB p) l).map stripN)).filter (M6.fitsB p) else M3.merge ((M6.steadyQ (M6.fitsB p) l).map stripN)) = (steadyIn p l).map stripN := by
  unfold steadyIn
  rw [strip_merge]
  split
  · exact filter_strip p _
  · rename_i h
    rw [merged_fits p l (by simpa using h)]

theorem steadyIn_el (p : ByteArray) (l : List Nd) : (steadyIn p l).filter isEl = (M6.steadyQ (M6.fitsB p) l).filter isEl := by
  unfold steadyIn
  rw [List.filter_filter, show (fun a => isEl a && M6.fitsB p a) = (fun a => M6.fitsB p a && isEl a) from funext fun a => Bool.and_comm _ _, ← List.filter_filter, el_merge]
  refine List.filter_eq_self.2 (fun y hy => ?_)
  obtain ⟨x, _, hq, _, rfl⟩ := M6.steady_from _ _ y (List.mem_filter.1 hy).1
  have : M6.fitsB p (M6.oneN x) = M6.fitsB p (stripN (M6.oneN x)) := rfl
  rw [this, oneN_strip]
  exact hq

set_option maxHeartbeats 16000000 in
set_option maxRecDepth 100000 in
theorem modSteadyIn (wt : Nat) : ∀ (S : Nat → Prop) (v : Value) (p : ByteArray) (l : List Nd) (w : World), M3.weight l < wt → M3.weight l ≤ 1000000 → FitN l → dtN l ≤ 268435456 → (∀ x ∈ l, M3.okP x) → p.size ≤ 268435456 → Glo w → (∀ b, S b → b < w.heap.size) → RepN S w v l →
    Calls Try.prog 40 #[.string p, v] w (NewPost (steadyIn p l) w) := by
  induction wt with
  | zero => intro S v p l w h; omega
  | succ wt ih =>
  intro S v p l w hwt hw6 hfit hdt hok hp hg hS hr
  obtain ⟨a, cap, rfl⟩ := hr.slice
  obtain ⟨_, hlc, hcm⟩ := hr.len
  have hll := M3.length_le_weight l
  replace ih := Lib.hid ih
  have h01 : Hid (([] : List NV).map NV.x = (M6.steadyQ (M6.fitsB p) (l.take 0)).map stripN) := by show _ = _; rw [List.take_zero, M6.steadyQ_nil]; rfl
  have h02 : Hid (([] : List (Value × List Nd)).map Prod.snd = ((M6.steadyQ (M6.fitsB p) (l.take 0)).filter isEl).map Nd.kids) := by show _ = _; rw [List.take_zero, M6.steadyQ_nil]; rfl
  replace hfit := Lib.hid hfit
  replace hok := Lib.hid hok
  replace hg := Lib.hid hg
  obtain ⟨wo, rfl⟩ : ∃ wo : World, wo = w := ⟨_, rfl⟩
  have h00 := Lib.hid (Two.start S wo)
  go_enter Try.func40, Try.ntmps40
  go_wp2_with fail
  go_loopw [5, 6, 8, 11] (fun u5 u6 _ u11 wr => ∃ (i : Nat) (A : List NV) (K : List (Value × List Nd)), i ≤ l.length ∧ u11 = .int .i64 (i : Int) ∧ Hid (A.map NV.x = (M6.steadyQ (M6.fitsB p) (l.take i)).map stripN) ∧ Hid (K.map Prod.snd = ((M6.steadyQ (M6.fitsB p) (l.take i)).filter isEl).map Nd.kids) ∧ Two S wo wr u5 u6 A K) (fun _ _ _ u11 _ => l.length - (intOf u11).toNat)
  case atStart => exact ⟨0, [], [], by omega, rfl, h01, h02, h00.out⟩
  case round =>
    obtain ⟨i, A, K, hi, rfl, hA, hK, hT⟩ := hrel
    have hb := hT.below
    have hz := hb.size
    have hAl : A.length ≤ 1000000 ∧ K.length ≤ 1000000 := by
      have h1 : (A.map NV.x).length = (M6.steadyQ (M6.fitsB p) (l.take i)).length := by rw [hA.out, List.length_map]
      rw [List.length_map] at h1
      have h5 : (K.map Prod.snd).length = ((M6.steadyQ (M6.fitsB p) (l.take i)).filter isEl).length := by rw [hK.out, List.length_map]
      rw [List.length_map] at h5
      have h6 := List.length_filter_le isEl (M6.steadyQ (M6.fitsB p) (l.take i))
      have h2 := M3.length_le_weight (M6.steadyQ (M6.fitsB p) (l.take i))
      have h3 := (steadyQ_sizes (l.take i) (M6.fitsB p)).1
      have h4 : M3.weight l = M3.weight (l.take i) + M3.weight (l.drop i) := by rw [← M3.weight_append, List.take_append_drop]
      omega
    obtain ⟨hAl, hKl⟩ := hAl
    by_cases hlt : i < l.length
    · have hr1 := hr.below hS hb
      obtain ⟨b, off, va, vk, rfl, hSb, c0, c1, c2, c3, c4, hrv⟩ := hr1.at_ i hlt
      have hbl := hS b hSb
      have hmd := lasts_take p l i hlt
      obtain ⟨hf1, hf2⟩ := fitN_iff.1 hfit.out _ (List.getElem_mem hlt)
      have hwk := weight_le (List.getElem_mem hlt)
      have hdk := dt_mem (List.getElem_mem hlt)
      have hox := hok.out _ (List.getElem_mem hlt)
      generalize l[i] = x at *
      have hrvo : RepV S wo x va vk := hrv.keep (w' := wo) (fun c hc => (hb.block c (hS c hc)).symm)
      have hstr := oneN_strip x
      have hokk : isEl x = true → ∀ y ∈ x.kids, M3.okP y := fun hk => by
        have h1 : M3.isText x = false := by
          have : x.kind = 1 := by simpa [isEl] using hk
          unfold M3.isText; rw [this]; rfl
        unfold M3.okP at hox
        rw [h1, if_neg Bool.false_ne_true] at hox
        exact (M6.ok_of_may _ _ hox.2).1
      obtain ⟨a1, e1, rfl⟩ := hrv.at_.slice
      obtain ⟨a2, e2, rfl⟩ := hrv.kids.slice
      have hL := Lib.hid (fun W hW => modLasts p x (.slice a1 x.attrs.length e1) (.slice a2 x.kids.length e2) W hW ⟨_, _, _, rfl⟩ ⟨_, _, _, rfl⟩ hp hf1.2.1)
      have hkr : RepN S wr (.slice a2 x.kids.length e2) x.kids := hrv.kids
      have hih := Lib.hid (fun (hk : isEl x = true) W (hg : Glo W) (hW : Below wr.heap.size wr W) => ih.out S (.slice a2 x.kids.length e2) x.name x.kids W (by omega) (by omega) hf2 (by omega) (hokk hk) hf1.1 hg (fun b h => by have := hS b h; have := hW.size; omega) (RepN.below (w := wr) (B := wr.heap.size) hkr (fun b h => by have := hS b h; omega) hW))
      have hel := oneN_el x
      clear hr1 hrv hox hokk
      replace hmd := Lib.hid hmd
      replace hT := Lib.hid hT
      have bx := Box.new wr 32 (x.cells (.slice a1 x.attrs.length e1) (.slice a2 x.kids.length e2))
      have hbx : Below wr.heap.size wr (wr.alloc (.cells (x.cells (.slice a1 x.attrs.length e1) (.slice a2 x.kids.length e2)).toArray 32)) := (Below.refl _ wr).alloc (Nat.le_refl _) _
      have hg1 := Lib.hid ((hg.out.below hb (Nat.le_refl _)).below hbx (Nat.le_refl _))
      have hI0 : (0 : Int) ≤ (i : Int) := by omega
      have hI1 : (i : Int) < (l.length : Int) := by omega
      replace hrvo := Lib.hid hrvo
      go_wp2_with fail
      refine (hL.out _ hg1.out).mono ?_
      rintro e w2 ⟨rfl, hb2⟩
      have hbw2 := bt hbx hb2
      have bx2 := bx.below hb2 (by simp)
      have hz2 : wr.heap.size + 1 ≤ w2.heap.size := by have := hb2.size; simp at this; omega
      have hg2 := Lib.hid (hg1.out.below hb2 (Nat.le_refl _))
      clear hL bx hbx hb2 hg1
      have p0 := bx2.cell (i := 0) rfl
      have p1 := bx2.cell (i := 1) rfl
      have p2 := bx2.cell (i := 2) rfl
      have p3 := bx2.cell (i := 3) rfl
      have p4 := bx2.cell (i := 4) rfl
      have f4 := bx2.free 4
      generalize hla : lastsB p x = q at *
      cases q
      · -- it goes
        have hmd := hmd.out
        rw [if_neg Bool.false_ne_true, List.append_nil] at hmd
        have hT2 := Lib.hid (hT.out.next hbw2)
        rw [← hmd] at hA hK
        replace hmd := Lib.hid hmd
        go_wp2_with fail
        go_roundw
        case rel => exact ⟨i + 1, A, K, by omega, by go_num, hA, hK, hT2.out⟩
        case measure => exact meas_nat hlt
      · have hmd := hmd.out
        rw [if_pos rfl] at hmd
        cases hk1 : (x.kind == 1)
        · -- no element
          have hA2 : Hid ((A ++ [(⟨stripN x, .slice a1 x.attrs.length e1, .slice none 0 0⟩ : NV)]).map NV.x = (M6.steadyQ (M6.fitsB p) (l.take (i + 1))).map stripN) := by
            show _ = _
            rw [hmd, List.map_append, List.map_append, hA.out, List.map_cons, List.map_cons, hstr]; rfl
          have hK2 : Hid (K.map Prod.snd = ((M6.steadyQ (M6.fitsB p) (l.take (i + 1))).filter isEl).map Nd.kids) := by
            show _ = _
            have he : isEl (M6.oneN x) = false := by unfold isEl; rw [M6.oneN_kind]; exact hk1
            rw [hmd, List.filter_append, List.filter_cons_of_neg (by rw [he]; exact Bool.false_ne_true), List.filter_nil, List.append_nil, hK.out]
          clear hA hK hih hel hmd
          have hT := hT.out
          have hown5 : (w2.setCell ⟨wr.heap.size, 4, none⟩ (.slice none 0 0)).ownsRow wo.heap.size 32 5 u5 A.length (cellsV A) := own_keep (own_below3 hT.bare hbw2) (fun g hg => Below.heap_setCell w2 _ _ g (by have := (hT.bare.lt g hg).2; show g ≠ wr.heap.size; omega))
          have hszS : (w2.setCell ⟨wr.heap.size, 4, none⟩ (.slice none 0 0)).heap.size = w2.heap.size := by simp [World.setCell]
          have hbo : Below wo.heap.size wo (w2.setCell ⟨wr.heap.size, 4, none⟩ (.slice none 0 0)) := (bt hb hbw2).setCell (p := ⟨wr.heap.size, 4, none⟩) hz _
          have hzS : wo.heap.size ≤ (w2.setCell ⟨wr.heap.size, 4, none⟩ (.slice none 0 0)).heap.size := by omega
          replace hT := Lib.hid hT
          replace hszS := Lib.hid hszS
          go_wp2_with (at_builtin; refine wpList_appK (w2.setCell ⟨wr.heap.size, 4, none⟩ (.slice none 0 0)) [.int .i64 x.kind, .string x.name, .slice a1 x.attrs.length e1, .string x.text, .slice none 0 0] 5 rfl _ _ 27 32 rfl wo.heap.size Try.underlying27 infoN rfl (by omega) _ A.length (cellsV A) rfl hown5 w2.heap.size hszS.out (by rfl) rfl (five_one _ _ _ _ _ _ _ _ _) (by omega) (by omega) hzS ?_; intro g cp w6 hown6 hgrow6 hat6)
          have hT := hT.out
          have hszS := hszS.out
          have hat6 : u5.ownBlock = some g ∨ (w2.setCell ⟨wr.heap.size, 4, none⟩ (.slice none 0 0)).heap.size ≤ g := hat6
          have hb6 := below_own hbo hown5 hgrow6 hzS (Nat.le_refl _)
          have hz6 := hgrow6.size
          have hkeep : ∀ c, c < wr.heap.size → u5.ownBlock ≠ some c → w6.heap[c]? = wr.heap[c]? := fun c h1 h2 =>
            (hgrow6.block c (by omega) (fun e => h2 e.symm)).trans ((Below.heap_setCell w2 _ _ c (by show c ≠ wr.heap.size; omega)).trans (hbw2.block c h1))
          have h5 : ∀ c, c < wr.heap.size → (Value.slice (some ⟨g, 0, none⟩) (A.length + 1) cp).ownBlock = some c → u5.ownBlock = some c := fun c h1 e => by
            have e : g = c := by simpa [Value.ownBlock] using e
            rcases hat6 with h | h
            · rw [h, e]
            · omega
          have hT6 : Two S wo w6 (.slice (some ⟨g, 0, none⟩) (A.length + 1) cp) u6 (A ++ [(⟨stripN x, .slice a1 x.attrs.length e1, .slice none 0 0⟩ : NV)]) K := by
            refine ⟨by rw [cellsV_snoc, List.length_append]; exact hown6, own_keep hT.kids (fun c hc => hkeep c (hT.kids.lt c hc).2 (fun e => hT.ne c e hc)), fun c e1 e2 => ?_, fun b hb => ?_, fun q hq => hT.grow (fun c h1 h2 _ => hkeep c h1 h2) (by omega) h5 (fun _ _ e => e) q hq, hb6⟩
            · have hc := (hT.kids.lt c e2).2
              exact hT.ne c (h5 c hc e1) e2
            · rcases List.mem_append.1 hb with hb | hb
              · exact hT.at_ b hb
              · rw [List.mem_singleton] at hb
                subst hb
                exact ⟨hrvo.out.at_, RepN.nil _ _⟩
          clear hown6 hgrow6 hat6 hkeep h5 hown5 hbo hT
          replace hT6 := Lib.hid hT6
          go_roundw
          case rel => exact ⟨i + 1, _, K, by omega, by go_num, hA2, hK2, hT6.out⟩
          case measure => exact meas_nat hlt
        · -- an element
          have hA2 : Hid ((A ++ [(⟨stripN x, .slice a1 x.attrs.length e1, .slice none 0 0⟩ : NV)]).map NV.x = (M6.steadyQ (M6.fitsB p) (l.take (i + 1))).map stripN) := by
            show _ = _
            rw [hmd, List.map_append, List.map_append, hA.out, List.map_cons, List.map_cons, hstr]; rfl
          obtain ⟨he1, he2⟩ := hel hk1
          obtain ⟨L, hLe⟩ : ∃ L, steadyIn x.name x.kids = L := ⟨_, rfl⟩
          rw [hLe] at he2 hih
          have hK2 : ∀ v8 : Value, Hid ((K ++ [(v8, L)]).map Prod.snd = ((M6.steadyQ (M6.fitsB p) (l.take (i + 1))).filter isEl).map Nd.kids) := fun v8 => by
            show _ = _
            rw [hmd, List.filter_append, List.filter_cons_of_pos he1, List.filter_nil, List.map_append, List.map_append, hK.out, List.map_cons, List.map_cons, he2]; rfl
          have hR := Lib.hid (hih.out hk1 w2 hg2.out hbw2)
          clear hA hK hih hel hmd hLe he1 he2
          go_wp2_with fail
          refine hR.out.mono ?_
          rintro e w3 ⟨v8, rfl, hr8, hb3⟩
          obtain ⟨a8, c8, hv8⟩ := hr8.slice
          subst hv8
          have hT := hT.out
          have hbw3 := bt hbw2 hb3
          have hz3 := hb3.size
          have bx3 := bx2.below hb3 (by omega)
          have hown6 : w3.ownsRow wo.heap.size 27 1 u6 K.length (K.map Prod.fst) := own_below3 hT.kids hbw3
          have hown53 : w3.ownsRow wo.heap.size 32 5 u5 A.length (cellsV A) := own_below3 hT.bare hbw3
          have hl6 : ∀ c, u6.ownBlock = some c → c < wr.heap.size := fun c e => (hT.kids.lt c e).2
          have hl5 : ∀ c, u5.ownBlock = some c → c < wr.heap.size := fun c e => (hT.bare.lt c e).2
          have hne := hT.ne
          have hbo3 := bt hb hbw3
          have hzo3 : wo.heap.size ≤ w3.heap.size := by omega
          clear p0 p1 p2 p3 p4 f4 bx2 hR
          replace hT := Lib.hid hT
          replace hr8 := Lib.hid hr8
          go_wp2_with (first
            | (at_builtin
               refine wpList_appK w3 [.slice a8 L.length c8] 1 rfl _ _ 64 27 rfl wo.heap.size Try.underlying64 infoSl rfl (by omega) _ K.length (K.map Prod.fst) rfl hown6 _ rfl rfl rfl (by simp [Value.oneCell']) (by omega) (by omega) hzo3 ?_
               intro g6 cp6 w4 hown6' hgrow6 hat6
               have hz4 := hgrow6.size
               have hbx4 := bx3.keep (w' := w4) (hgrow6.block wr.heap.size (by omega) (fun e => by have := hl6 _ e.symm; omega))
               have p0 := hbx4.cell (i := 0) rfl
               have p1 := hbx4.cell (i := 1) rfl
               have p2 := hbx4.cell (i := 2) rfl
               have p3 := hbx4.cell (i := 3) rfl
               have p4 := hbx4.cell (i := 4) rfl
               have f4 := hbx4.free 4
               have hbo4 : Below wo.heap.size wo w4 := below_own hbo3 hown6 hgrow6 hzo3 (Nat.le_refl _)
               have hown5 : (w4.setCell ⟨wr.heap.size, 4, none⟩ (.slice none 0 0)).ownsRow wo.heap.size 32 5 u5 A.length (cellsV A) := own_keep (own_keep hown53 (fun g hg => hgrow6.block g (by have := hl5 g hg; omega) (fun e => hne g hg e.symm))) (fun g hg => Below.heap_setCell w4 _ _ g (by have := hl5 g hg; show g ≠ wr.heap.size; omega))
               have hszS := Lib.hid (show (w4.setCell ⟨wr.heap.size, 4, none⟩ (.slice none 0 0)).heap.size = w4.heap.size by simp [World.setCell])
               have hbo : Below wo.heap.size wo (w4.setCell ⟨wr.heap.size, 4, none⟩ (.slice none 0 0)) := hbo4.setCell (p := ⟨wr.heap.size, 4, none⟩) hz _
               have hzS : wo.heap.size ≤ (w4.setCell ⟨wr.heap.size, 4, none⟩ (.slice none 0 0)).heap.size := by have := hszS.out; omega)
            | (at_builtin; refine wpList_appK (w4.setCell ⟨wr.heap.size, 4, none⟩ (.slice none 0 0)) [.int .i64 x.kind, .string x.name, .slice a1 x.attrs.length e1, .string x.text, .slice none 0 0] 5 rfl _ _ 27 32 rfl wo.heap.size Try.underlying27 infoN rfl (by omega) _ A.length (cellsV A) rfl hown5 w4.heap.size hszS.out (by rfl) rfl (five_one _ _ _ _ _ _ _ _ _) (by omega) (by omega) hzS ?_; intro g cp w6 hown5' hgrow5 hat5))
          have hT := hT.out
          have hszS := hszS.out
          have hat5 : u5.ownBlock = some g ∨ (w4.setCell ⟨wr.heap.size, 4, none⟩ (.slice none 0 0)).heap.size ≤ g := hat5
          have hat6 : u6.ownBlock = some g6 ∨ w3.heap.size ≤ g6 := hat6
          have hb6 := below_own hbo hown5 hgrow5 hzS (Nat.le_refl _)
          have hz6 := hgrow5.size
          have hkeep : ∀ c, c < w3.heap.size → c ≠ wr.heap.size → u5.ownBlock ≠ some c → u6.ownBlock ≠ some c → w6.heap[c]? = w3.heap[c]? := fun c h1 h0 h2 h3 =>
            (hgrow5.block c (by omega) (fun e => h2 e.symm)).trans ((Below.heap_setCell w4 _ _ c (by show c ≠ wr.heap.size; omega)).trans (hgrow6.block c h1 (fun e => h3 e.symm)))
          have h5 : ∀ c, c < w3.heap.size → (Value.slice (some ⟨g, 0, none⟩) (A.length + 1) cp).ownBlock = some c → u5.ownBlock = some c := fun c h1 e => by
            have e : g = c := by simpa [Value.ownBlock] using e
            rcases hat5 with h | h
            · rw [h, e]
            · omega
          have h6 : ∀ c, c < w3.heap.size → (Value.slice (some ⟨g6, 0, none⟩) (K.length + 1) cp6).ownBlock = some c → u6.ownBlock = some c := fun c h1 e => by
            have e : g6 = c := by simpa [Value.ownBlock] using e
            rcases hat6 with h | h
            · rw [h, e]
            · omega
          have hg6 : u6.ownBlock = some g6 ∨ w3.heap.size ≤ g6 := hat6
          have hg6l : g6 < w4.heap.size := (hown6'.lt g6 rfl).2
          have h56 : u5.ownBlock ≠ some g6 := fun e => by
            rcases hg6 with h | h
            · exact hne g6 e h
            · have := hl5 g6 e; omega
          have hg6w : g6 ≠ wr.heap.size := fun e => by
            rcases hg6 with h | h
            · have := hl6 g6 h; omega
            · omega
          have hT6 : Two S wo w6 (.slice (some ⟨g, 0, none⟩) (A.length + 1) cp) (.slice (some ⟨g6, 0, none⟩) (K.length + 1) cp6) (A ++ [(⟨stripN x, .slice a1 x.attrs.length e1, .slice none 0 0⟩ : NV)]) (K ++ [(.slice a8 L.length c8, L)]) := by
            refine ⟨by rw [cellsV_snoc, List.length_append]; exact hown5', ?_, fun c e1 e2 => ?_, fun b hb => ?_, fun q hq => ?_, hb6⟩
            · rw [List.map_append, List.length_append]
              refine own_keep hown6' (fun c hc => ?_)
              have hc : g6 = c := by simpa [Value.ownBlock] using hc
              subst hc
              exact (hgrow5.block g6 (by omega) (fun e => h56 e.symm)).trans (Below.heap_setCell w4 _ _ g6 hg6w)
            · have e2 : g6 = c := by simpa [Value.ownBlock] using e2
              have e1 : g = c := by simpa [Value.ownBlock] using e1
              rcases hat5 with h | h
              · exact h56 (by rw [h, e1, e2])
              · omega
            · rcases List.mem_append.1 hb with hb | hb
              · exact hT.at_ b hb
              · rw [List.mem_singleton] at hb
                subst hb
                exact ⟨hrvo.out.at_, RepN.nil _ _⟩
            · rcases List.mem_append.1 hq with hq | hq
              · exact hT.grow (fun c h1 h2 h3 => (hkeep c (by omega) (by omega) h2 h3).trans (hbw3.block c h1)) (by omega) (fun c h1 e => h5 c (by omega) e) (fun c h1 e => h6 c (by omega) e) q hq
              · rw [List.mem_singleton] at hq
                subst hq
                refine ((hr8.out).keep (w' := w6) (fun c hc => hkeep c hc.2 (by omega) (fun e => by have := hl5 c e; omega) (fun e => by have := hl6 c e; omega))).mono (fun c hc => ⟨⟨by omega, by omega⟩, fun e => ?_, fun e => ?_⟩)
                · have := hl5 c (h5 c hc.2 e); omega
                · have := hl6 c (h6 c hc.2 e); omega
          clear hown5' hown6' hgrow5 hgrow6 hat5 hat6 hkeep h5 h6 hown5 hown6 hbo hT hr8
          replace hT6 := Lib.hid hT6
          go_roundw
          case rel => exact ⟨i + 1, _, _, by omega, by go_num, hA2, hK2 _, hT6.out⟩
          case measure => exact meas_nat hlt
    · obtain rfl : i = l.length := by omega
      rw [List.take_length] at hA hK
      obtain ⟨hs1, hs2⟩ := steadyQ_sizes l (M6.fitsB p)
      have hm1 := weight_strip (M6.steadyQ (M6.fitsB p) l)
      have hm2 := txt_strip (M6.steadyQ (M6.fitsB p) l)
      have hm3 := txt_dt (M6.steadyQ (M6.fitsB p) l)
      have hrep : RepN (fun c => c < wr.heap.size) wr u5 ((M6.steadyQ (M6.fitsB p) l).map stripN) := by
        rw [← hA.out]
        exact ⟨cellsV A, by rw [List.length_map]; exact Row.own hT.bare (fun g hg => (hT.bare.lt g hg).2), RepC.of_nv (fun b hb' => ((hT.at_ b hb').below hS hb).mono (fun c hc => by have := hS c hc; omega))⟩
      have hM := modMerged (fun c => c < wr.heap.size) p u5 _ wr (fun _ h => h) hrep (by omega) (by omega) hp (fun h => by rw [strip_merge, List.length_map]; exact texts_merged _ (raw_texts p l h))
      rw [merged_strip] at hM
      replace hM := Lib.hid hM
      have hkb : ∀ x ∈ steadyIn p l, isEl x = false → x.kids = [] := fun x hx hk => by
        have h1 := M6.steady_ok l (M6.fitsB p) hok.out
        have h2 := M3.merge_all (P := fun x => M3.okP x) (fun x y hx hy h1 h2 => M3.okP_cat x y hx hy h1 h2) _ (fun y hy => (h1 y hy).1) x (List.mem_filter.1 hx).1
        exact okP_kids h2 hk
      have hfb := fill_back (steadyIn p l) hkb
      rw [steadyIn_el, ← hK.out] at hfb
      have hlen : (steadyIn p l).length ≤ 1000000 := by
        have h1 := List.length_filter_le (M6.fitsB p) (M3.merge (M6.steadyQ (M6.fitsB p) l))
        have h2 := weight_merge (M6.steadyQ (M6.fitsB p) l)
        have h3 := M3.length_le_weight (M3.merge (M6.steadyQ (M6.fitsB p) l))
        show ((M3.merge (M6.steadyQ (M6.fitsB p) l)).filter (M6.fitsB p)).length ≤ _
        omega
      have hcnt : ((steadyIn p l).filter isEl).length = K.length := by
        have h1 : (K.map Prod.snd).length = (((M6.steadyQ (M6.fitsB p) l).filter isEl).map Nd.kids).length := by rw [hK.out]
        rw [List.length_map, List.length_map] at h1
        rw [steadyIn_el, h1]
      clear hA hK hm1 hm2 hm3 hs1 hs2 hrep hkb
      generalize steadyIn p l = R at *
      obtain ⟨a5, c5, hu5⟩ := own_slice hT.bare
      obtain ⟨a6, c6, hu6⟩ := own_slice hT.kids
      subst hu5
      subst hu6
      replace hT := Lib.hid hT
      replace hfb := Lib.hid hfb
      go_wp2_with fail
      refine hM.out.mono ?_
      rintro e w2 ⟨v2, M, rfl, hMx, hown2, hMr, hb2⟩
      have hT := hT.out
      have hz2 := hb2.size
      have hMl : M.length ≤ 1000000 := by
        have h1 : (M.map NV.x).length = (R.map stripN).length := by rw [hMx]
        rw [List.length_map, List.length_map] at h1
        omega
      have hels : elsV M = K.length := by rw [elsV_map, hMx, el_strip, hcnt]
      have hW := modWith wr.heap.size (fun c => (Value.slice a6 K.length c6).ownBlock = some c) v2 (.slice a6 K.length c6) M K w2 hown2 (Row.own (own_below3 hT.kids hb2) (fun g hg => hg)) (fun b hb' => ⟨by have := (hT.kids.lt b hb').2; omega, ownB_ne6 hown2 (Or.inl (hT.kids.lt b hb').2)⟩) (fun q hq => by obtain ⟨a, c, e⟩ := (hT.reps q hq).slice; exact ⟨a, _, c, e⟩) hMl hels
      have hfin : (fillV M K).map NV.x = R := by rw [fillV_map, hMx]; exact hfb.out
      have hbo := bt hb hb2
      obtain ⟨av, cv, hv2⟩ := own_slice hown2
      subst hv2
      replace hT := Lib.hid hT
      replace hW := Lib.hid hW
      replace hMr := Lib.hid hMr
      replace hMx := Lib.hid hMx
      clear hM
      go_wp2_with fail
      refine hW.out.mono ?_
      rintro e w3 ⟨rfl, hown3, hgr⟩
      have hT := hT.out
      have hz3 := hgr.size
      have hb3 : Below wo.heap.size wo w3 := hbo.grown hgr hbo.size (fun k hk => by have := (hown2.lt k hk).1; omega)
      have hres : RepN (fun b => wo.heap.size ≤ b ∧ b < w3.heap.size) w3 (.slice av M.length cv) R := by
        rw [← hfin]
        refine ⟨cellsV (fillV M K), by rw [List.length_map, fillV_len]; exact Row.own hown3 (fun g hg => ⟨by have := (hown3.lt g hg).1; omega, (hown3.lt g hg).2⟩), RepC.of_nv (fun b hb' => ?_)⟩
        obtain ⟨b0, h0, h1⟩ := mem_fillV M K hb'
        have hv0 := ((hMr.out b0 h0).keep (w' := w3) (fun c hc => hgr.block c hc.2.1 (fun e => hc.2.2 e.symm))).mono (S' := fun b => wo.heap.size ≤ b ∧ b < w3.heap.size) (fun c hc => ⟨by have := hc.1; omega, by have := hc.2.1; omega⟩)
        rcases h1 with rfl | ⟨q, hq, rfl⟩
        · exact hv0
        · refine ⟨hv0.at_, ?_⟩
          have h2 := RepN.below (hT.reps q hq) (fun c hc => hc.1.2) hb2
          exact (h2.keep (w' := w3) (fun c hc => hgr.block c (by have := hc.1.2; omega) (fun e => ownB_ne6 hown2 (Or.inl hc.1.2) e.symm))).mono (fun c hc => ⟨hc.1.1, by have := hc.1.2; omega⟩)
      replace hres := Lib.hid hres
      go_wp2_with fail
      go_ret
      exact ⟨_, rfl, hres.out, hb3⟩
end Go.Proofs.Ytbnfaijkmbgpmaa

/- Statement ModelSteady. -/
namespace Go.Proofs.Ytbnfaijkmbgpmaa
open Go.RowKit

theorem modSteady (S : Nat → Prop) (v : Value) (l : List Nd) (w : World) (hw6 : M3.weight l ≤ 1000000) (hfit : FitN l) (hdt : dtN l ≤ 268435456) (hok : ∀ x ∈ l, M3.okP x) (hg : Glo w) (hS : ∀ b, S b → b < w.heap.size) (hr : RepN S w v l) :
    Calls Try.prog 21 #[v] w (NewPost (M6.steady l) w) := by
  have hI := modSteadyIn (M3.weight l + 1) S v ⟨#[]⟩ l w (by omega) hw6 hfit hdt hok (by decide) hg hS hr
  rw [steadyIn_outside] at hI
  obtain ⟨a, cap, rfl⟩ := hr.slice
  clear hr
  replace hI := Lib.hid hI
  obtain ⟨wo, rfl⟩ : ∃ wo : World, wo = w := ⟨_, rfl⟩
  go_enter Try.func21, Try.ntmps21
  go_wp2_with fail
  refine hI.out.mono ?_
  rintro e w1 ⟨v1, rfl, hr1, hb1⟩
  obtain ⟨a1, c1, hv1⟩ := hr1.slice
  subst hv1
  replace hr1 := Lib.hid hr1
  go_wp2_with fail
  go_ret
  exact ⟨_, rfl, hr1.out, hb1⟩

set_option maxHeartbeats 4000000 in
set_option maxRecDepth 100000 in
theorem law06ModelSteady (S : Nat → Prop) (v : Value) (l : List Nd) (w : World) (hg : Glo w) (hS : ∀ b, S b → b < w.heap.size) (hr : RepN S w v l) (hsz : SzN l) :
    Calls Try.prog 6 #[v] w (BoolB true w) := by
  have hG := Lib.hid (ref03Good S v l w hS hr hsz)
  have hw := gd_weight l
  have hd := dt_gd l
  have hf := gd_fit l
  have hm := gd_may l
  obtain ⟨a, cap, rfl⟩ := hr.slice
  clear hr hsz
  replace hg := Lib.hid hg
  have hgs : ∀ W, Below w.heap.size w W → Glo W := fun W h => hg.out.below h (Nat.le_refl _)
  have hLv := Lib.hid (fun W (h : Below w.heap.size w W) => lives06 W (hgs W h))
  generalize gdN l = G at *
  have hokG := (M6.ok_of_may G false hm).1
  obtain ⟨t1, t2⟩ := M6.steady_stable G hokG
  have hokT := (M6.ok_of_may _ false t1).1
  have hself := M6.steady_self _ t1 t2
  have hst : M6.stableB (M6.steady G) = true := by rw [M6.stable_may t1, t2]
  obtain ⟨z1, z2⟩ := steady_sizes G
  have hfT := fit_steady hf (by omega)
  have hMG := Lib.hid (fun v W (h : Below w.heap.size w W) hr => modSteady (fun b => b < W.heap.size) v G W (by omega) hf (by omega) hokG (hgs W h) (fun _ h => h) hr)
  have hRG := Lib.hid (fun v W hr => ref06Steady (M3.weight G + 1) (fun b => b < W.heap.size) v G W (by omega) (by omega) hf (by omega) (fun _ h => h) hr)
  have hMT := fun v W (h : Below w.heap.size w W) hr => modSteady (fun b => b < W.heap.size) v (M6.steady G) W (by omega) hfT (by omega) hokT (hgs W h) (fun _ h => h) hr
  have hST := fun v W (h : Below w.heap.size w W) hr => modStable (fun b => b < W.heap.size) v (M6.steady G) W hfT (hgs W h) (fun _ h => h) hr
  have hSm := fun va vb W (h1 : RepN (fun b => b < W.heap.size) W va (M6.steady G)) (h2 : RepN (fun b => b < W.heap.size) W vb (M6.steady G)) => ref03Same (M3.weight (M6.steady G) + 1) (fun b => b < W.heap.size) (M6.steady G) (M6.steady G) va vb W (by omega) (fun _ h => h) h1 h2
  rw [M3.sameN_self] at hSm
  rw [hself] at hMT
  rw [hst] at hST
  replace hMT := Lib.hid hMT
  replace hST := Lib.hid hST
  replace hSm := Lib.hid hSm
  clear hgs hw hd hf hm hokG t1 t2 hokT hself hst z1 z2 hfT
  have keep : ∀ {w w' : World} {v : Value} {l : List Nd}, RepN (fun b => b < w.heap.size) w v l → Below w.heap.size w w' → RepN (fun b => b < w'.heap.size) w' v l := fun h hb => (RepN.below h (fun _ h => h) hb).mono (fun b h => by have := hb.size; omega)
  obtain ⟨wo, rfl⟩ : ∃ wo : World, wo = w := ⟨_, rfl⟩
  go_enter Try.func6, Try.ntmps6
  go_wp2_with fail
  refine hG.out.mono ?_
  rintro e w1 ⟨v1, rfl, hf1, hb1⟩
  have hr1 : RepN (fun b => b < w1.heap.size) w1 v1 G := hf1.rep.mono (fun b h => h.2)
  have q1 := Lib.hid (hMG.out _ w1 hb1 hr1)
  obtain ⟨a1, c1, hv1⟩ := hr1.slice
  subst hv1
  clear hG hf1 hMG
  go_wp2_with fail
  refine q1.out.mono ?_
  rintro e w2 ⟨v2, rfl, hr2, hb2⟩
  have hb12 := bt hb1 hb2
  have hr2 : RepN (fun b => b < w2.heap.size) w2 v2 (M6.steady G) := hr2.mono (fun b h => h.2)
  have hr1 := keep hr1 hb2
  have q2 := Lib.hid (hRG.out _ w2 hr1)
  obtain ⟨a2, c2, hv2⟩ := hr2.slice
  subst hv2
  clear q1 hRG hr1
  go_wp2_with fail
  refine q2.out.mono ?_
  rintro e w3 ⟨v3, rfl, hr3, hb3⟩
  have hb13 := bt hb12 hb3
  have hr3 : RepN (fun b => b < w3.heap.size) w3 v3 (M6.steady G) := hr3.mono (fun b h => by
    have := hb3.size
    rcases h with h | h
    · omega
    · exact h.2)
  have hr2 := keep hr2 hb3
  have q3 := Lib.hid (hSm.out _ _ w3 hr2 hr3)
  obtain ⟨a3, c3, hv3⟩ := hr3.slice
  subst hv3
  clear q2 hr3
  generalize M6.steady G = T at *
  go_wp2_with fail
  refine q3.out.mono ?_
  rintro e w4 ⟨rfl, hb4⟩
  have hb14 := bt hb13 hb4
  have hr2 := keep hr2 hb4
  have q4 := Lib.hid (hMT.out _ w4 hb14 hr2)
  clear q3 hMT
  go_wp2_with fail
  refine q4.out.mono ?_
  rintro e w5 ⟨v5, rfl, hr5, hb5⟩
  have hb15 := bt hb14 hb5
  have hr5 : RepN (fun b => b < w5.heap.size) w5 v5 T := hr5.mono (fun b h => h.2)
  have hr2 := keep hr2 hb5
  have q5 := Lib.hid (hSm.out _ _ w5 hr5 hr2)
  obtain ⟨a5, c5, hv5⟩ := hr5.slice
  subst hv5
  clear q4 hr5 hSm
  go_wp2_with fail
  refine q5.out.mono ?_
  rintro e w6 ⟨rfl, hb6⟩
  have hb16 := bt hb15 hb6
  have hr2 := keep hr2 hb6
  have q6 := Lib.hid (hST.out _ w6 hb16 hr2)
  clear q5 hST
  go_wp2_with fail
  refine q6.out.mono ?_
  rintro e w7 ⟨rfl, hb7⟩
  have hb17 := bt hb16 hb7
  have q7 := Lib.hid (hLv.out w7 hb17)
  clear q6 hLv
  go_wp2_with fail
  refine q7.out.mono ?_
  rintro e w8 ⟨rfl, hb8⟩
  go_wp2_with fail
  go_ret
  exact ⟨rfl, bt hb17 hb8⟩
end Go.Proofs.Ytbnfaijkmbgpmaa
