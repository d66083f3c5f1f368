/- The reference of layer 3: the same. -/
import Derived.Test.YtjelmpajphajfaaSame3
namespace Go.Proofs.Ytjelmpajphajfaa
open Go.RowKit

theorem meas_nat {n k : Nat} (h : k < n) : n - (intOf (.int .i64 ((k : Int) + 1))).toNat < n - (intOf (.int .i64 (k : Int))).toNat := by
  show n - ((k : Int) + 1).toNat < n - (k : Int).toNat
  omega

set_option maxHeartbeats 8000000 in
set_option maxRecDepth 100000 in
theorem ref03Same (wt : Nat) : ∀ (S : Nat → Prop) (a b : List Nd) (va vb : Value) (w : World), M3.weight a < wt → (∀ b, S b → b < w.heap.size) → RepN S w va a → RepN S w vb b → Calls Try.prog 22 #[va, vb] w (SamePost (M3.sameN a b) w) := by
  induction wt with
  | zero => intro S a b va vb w h; omega
  | succ wt ih =>
  intro S a b va vb w hwt hS ha hb
  obtain ⟨a1, cap1, rfl⟩ := ha.slice
  obtain ⟨a2, cap2, rfl⟩ := hb.slice
  obtain ⟨_, hl1, hm1⟩ := ha.len
  obtain ⟨_, hl2, hm2⟩ := hb.len
  replace ih := Lib.hid ih
  by_cases hne : a.length = b.length
  · have hz : ((a.length : Int) == (b.length : Int)) = true := by simp [hne]
    have h0 : Hid (M3.sameN a b = M3.sameN (a.drop 0) (b.drop 0)) := rfl
    replace hne := Lib.hid hne
    go_enter Try.func22, Try.ntmps22
    go_wp2
    go_loopw [5] (fun u5 wr => ∃ i : Nat, i ≤ a.length ∧ u5 = .int .i64 (i : Int) ∧ Hid (M3.sameN a b = M3.sameN (a.drop i) (b.drop i)) ∧ Below w.heap.size w wr) (fun u5 _ => a.length - (intOf u5).toNat)
    case atStart => exact ⟨0, by omega, rfl, h0, Below.refl _ _⟩
    case round =>
      obtain ⟨i, hi, rfl, hv, hbw⟩ := hrel
      clear h0
      have hzw := hbw.size
      by_cases hlt : i < a.length
      · have hlt2 : i < b.length := by have := hne.out; omega
        have hI0 : (0 : Int) ≤ (i : Int) := by omega
        have hI1 : (i : Int) < (a.length : Int) := by omega
        have hI2 : (i : Int) < (b.length : Int) := by omega
        obtain ⟨b1, off1, va, vk, rfl, hS1, c0, c1, c2, c3, c4, hrx⟩ := (ha.below hS hbw).at_ i hlt
        obtain ⟨b2, off2, vb, vl, rfl, hS2, d0, d1, d2, d3, d4, hry⟩ := (hb.below hS hbw).at_ i hlt2
        have hsd := sameN_drop a b i hlt hlt2
        have hwx := weight_mem (List.getElem_mem hlt)
        generalize a[i] = x at *
        generalize b[i] = y at *
        obtain ⟨a5, c5, rfl⟩ := hrx.at_.slice
        obtain ⟨a6, c6, rfl⟩ := hrx.kids.slice
        obtain ⟨a7, c7, rfl⟩ := hry.at_.slice
        obtain ⟨a8, c8, rfl⟩ := hry.kids.slice
        have hx1 := (Below.refl wr.heap.size wr).alloc (Nat.le_refl _) (.cells (x.cells (.slice a5 x.attrs.length c5) (.slice a6 x.kids.length c6)).toArray 28)
        have hl2 : b2 < wr.heap.size := by have := hS b2 hS2; omega
        have d0' := (hx1.cell (p := ⟨b2, off2 + i * 5, none⟩) hl2).trans d0
        have d1' := (hx1.cell (p := ⟨b2, off2 + i * 5 + 1, none⟩) hl2).trans d1
        have d2' := (hx1.cell (p := ⟨b2, off2 + i * 5 + 2, none⟩) hl2).trans d2
        have d3' := (hx1.cell (p := ⟨b2, off2 + i * 5 + 3, none⟩) hl2).trans d3
        have d4' := (hx1.cell (p := ⟨b2, off2 + i * 5 + 4, none⟩) hl2).trans d4
        have hB2 := hx1.alloc (by simp) (.cells (y.cells (.slice a7 y.attrs.length c7) (.slice a8 y.kids.length c8)).toArray 28)
        have b0 := (Box.new wr 28 (x.cells (.slice a5 x.attrs.length c5) (.slice a6 x.kids.length c6))).alloc (.cells (y.cells (.slice a7 y.attrs.length c7) (.slice a8 y.kids.length c8)).toArray 28)
        have b1' := Box.new (wr.alloc (.cells (x.cells (.slice a5 x.attrs.length c5) (.slice a6 x.kids.length c6)).toArray 28)) 28 (y.cells (.slice a7 y.attrs.length c7) (.slice a8 y.kids.length c8))
        simp only [World.size_alloc] at b1'
        have hih := Lib.hid (fun W (hW : Below wr.heap.size wr W) => ih.out S x.kids y.kids (.slice a6 x.kids.length c6) (.slice a8 y.kids.length c8) W (by omega) (fun b h => by have := hS b h; have := hW.size; omega) (RepN.below (w := wr) (B := wr.heap.size) hrx.kids (fun b h => by have := hS b h; omega) hW) (RepN.below (w := wr) (B := wr.heap.size) hry.kids (fun b h => by have := hS b h; omega) hW))
        have hatx := fun W (hW : Below wr.heap.size wr W) => Row.below (w := wr) (B := wr.heap.size) hrx.at_ (fun b h => by have := hS b h; omega) hW
        have haty := fun W (hW : Below wr.heap.size wr W) => Row.below (w := wr) (B := wr.heap.size) hry.at_ (fun b h => by have := hS b h; omega) hW
        replace hsd := hv.out.trans hsd
        clear hv ih hrx hry ha hb
        have hsame : oneSame x y = (x.kind == y.kind && (x.name.toList == y.name.toList) && (x.text.toList == y.text.toList) && M3.sameA x.attrs y.attrs && M3.sameN x.kids y.kids) := rfl
        rw [hsame] at hsd
        clear hsame
        cases x with | mk k1 n1 ats1 t1 ks1 =>
        cases y with | mk k2 n2 ats2 t2 ks2 =>
        simp only [Nd.kind, Nd.name, Nd.text, Nd.attrs, Nd.kids, Nd.cells] at *
        replace hatx := Lib.hid hatx
        replace haty := Lib.hid haty
        cases he1 : (k1 == k2)
        · have hk : ¬ k1 = k2 := by simpa using he1
          replace hsd : Hid (M3.sameN a b = false) := by show _ = _; rw [hsd, he1]; rfl
          go_wp2_with (fail)
          go_ret
          exact ⟨by rw [hsd.out]; rfl, hbw.trans (hB2.mono hzw)⟩
        · obtain rfl : k1 = k2 := by simpa using he1
          cases he2 : (n1.toList == n2.toList)
          · replace hsd : Hid (M3.sameN a b = false) := by show _ = _; rw [hsd, he1, he2]; rfl
            go_wp2_with (fail)
            go_ret
            exact ⟨by rw [hsd.out]; rfl, hbw.trans (hB2.mono hzw)⟩
          · cases he3 : (t1.toList == t2.toList)
            · replace hsd : Hid (M3.sameN a b = false) := by show _ = _; rw [hsd, he1, he2, he3]; rfl
              go_wp2_with (fail)
              go_ret
              exact ⟨by rw [hsd.out]; rfl, hbw.trans (hB2.mono hzw)⟩
            · by_cases hla : ats1.length = ats2.length
              · have hla1 : ((ats1.length : Int) == (ats2.length : Int)) = true := by simp [hla]
                have hla2 : (ats1.length : Int) = (ats2.length : Int) := by omega
                rw [he1, he2, he3] at hsd
                replace hsd := Lib.hid hsd
                replace hla := Lib.hid hla
                clear hla2
                go_wp2_with (fail)
                rw [show ((ats1.length : Int) != (ats2.length : Int)) = false by simp [hla.out]]
                clear hla1
                obtain ⟨wo, rfl⟩ : ∃ wo : World, wo = wr := ⟨_, rfl⟩
                have h1 : Hid (M3.sameA ats1 ats2 = M3.sameA (ats1.drop 0) (ats2.drop 0)) := rfl
                go_loopw [8] (fun u8 wr => ∃ k : Nat, k ≤ ats1.length ∧ u8 = .int .i64 (k : Int) ∧ Hid (M3.sameA ats1 ats2 = M3.sameA (ats1.drop k) (ats2.drop k)) ∧ Below wo.heap.size wo wr ∧ Box wr wo.heap.size 28 [.int .i64 k1, .string n1, .slice a5 ats1.length c5, .string t1, .slice a6 ks1.length c6] ∧ Box wr (wo.heap.size + 1) 28 [.int .i64 k1, .string n2, .slice a7 ats2.length c7, .string t2, .slice a8 ks2.length c8]) (fun u8 _ => ats1.length - (intOf u8).toNat)
                case atStart => exact ⟨0, by omega, rfl, h1, hB2, b0, b1'⟩
                case round =>
                  obtain ⟨k, hk, rfl, hA, hbi, hx8, hy8⟩ := hrel
                  have g1 := hx8.cell (i := 2) rfl
                  have g2 := hy8.cell (i := 2) rfl
                  have g3 := hx8.cell (i := 4) rfl
                  have g4 := hy8.cell (i := 4) rfl
                  clear h1 hB2 b0 b1' d0' d1' d2' d3' d4' c0 c1 c2 c3 c4 d0 d1 d2 d3 d4 hx1
                  by_cases hlk : k < ats1.length
                  · have hlk2 : k < ats2.length := by have := hla.out; omega
                    have hJ0 : (0 : Int) ≤ (k : Int) := by omega
                    have hJ1 : (k : Int) < (ats1.length : Int) := by omega
                    have hJ2 : (k : Int) < (ats2.length : Int) := by omega
                    obtain ⟨_, hl5, hm5⟩ := (hatx.out wr hbi).len
                    have hb63 : Hid (ats1.length ≤ 9223372036854775807) := Nat.le_trans hl5 hm5
                    clear hl5 hm5
                    obtain ⟨b3, off3, rfl, hS3, p0, p1⟩ := (hatx.out wr hbi).atA k hlk
                    obtain ⟨b4, off4, rfl, hS4, p2, p3⟩ := (haty.out wr hbi).atA k hlk2
                    have hsa := sameA_drop ats1 ats2 k hlk hlk2
                    generalize ats1[k].name = m1 at *
                    generalize ats1[k].value = x1 at *
                    generalize ats2[k].name = m2 at *
                    generalize ats2[k].value = x2 at *
                    replace hA := hA.out.trans hsa
                    have q1 : M3.eqB m1 m2 = (m1.toList == m2.toList) := rfl
                    have q2 : M3.eqB x1 x2 = (x1.toList == x2.toList) := rfl
                    clear hsa
                    cases he4 : (m1.toList == m2.toList)
                    · clear q2
                      replace hA : Hid (M3.sameA ats1 ats2 = false) := by show _ = _; rw [hA, q1, he4]; rfl
                      go_wp2_with (fail)
                      go_region_held3 (fun w' => w'.cell? ⟨wo.heap.size, 2, none⟩ = some (.slice (some ⟨b3, off3, none⟩) ats1.length c5) ∧ w'.cell? ⟨wo.heap.size + 1, 2, none⟩ = some (.slice (some ⟨b4, off4, none⟩) ats2.length c7) ∧ w'.cell? ⟨b3, off3 + k * 2, none⟩ = some (.string m1) ∧ w'.cell? ⟨b3, off3 + k * 2 + 1, none⟩ = some (.string x1) ∧ w'.cell? ⟨b4, off4 + k * 2, none⟩ = some (.string m2) ∧ w'.cell? ⟨b4, off4 + k * 2 + 1, none⟩ = some (.string x2))
                        (first
                          | go_keep
                          | assumption)
                        (first
                          | fail)
                      go_wp2_with (fail)
                      go_ret
                      exact ⟨by rw [hsd.out, hA.out]; rfl, hbw.trans ((hbi.trans ((Below.refl _ wr).drew.mono (by have := hbi.size; omega))).mono hzw)⟩
                    · cases he5 : (x1.toList == x2.toList)
                      · replace hA : Hid (M3.sameA ats1 ats2 = false) := by show _ = _; rw [hA, q1, q2, he4, he5]; rfl
                        go_wp2_with (fail)
                        go_region_held3 (fun w' => w'.cell? ⟨wo.heap.size, 2, none⟩ = some (.slice (some ⟨b3, off3, none⟩) ats1.length c5) ∧ w'.cell? ⟨wo.heap.size + 1, 2, none⟩ = some (.slice (some ⟨b4, off4, none⟩) ats2.length c7) ∧ w'.cell? ⟨b3, off3 + k * 2, none⟩ = some (.string m1) ∧ w'.cell? ⟨b3, off3 + k * 2 + 1, none⟩ = some (.string x1) ∧ w'.cell? ⟨b4, off4 + k * 2, none⟩ = some (.string m2) ∧ w'.cell? ⟨b4, off4 + k * 2 + 1, none⟩ = some (.string x2))
                          (first
                            | go_keep
                            | assumption)
                          (first
                            | fail)
                        go_wp2_with (fail)
                        go_ret
                        exact ⟨by rw [hsd.out, hA.out]; rfl, hbw.trans ((hbi.trans ((Below.refl _ wr).drew.mono (by have := hbi.size; omega))).mono hzw)⟩
                      · replace hA : Hid (M3.sameA ats1 ats2 = M3.sameA (ats1.drop (k + 1)) (ats2.drop (k + 1))) := by show _ = _; rw [hA, q1, q2, he4, he5]; rfl
                        go_wp2_with (fail)
                        go_region_held3 (fun w' => w'.cell? ⟨wo.heap.size, 2, none⟩ = some (.slice (some ⟨b3, off3, none⟩) ats1.length c5) ∧ w'.cell? ⟨wo.heap.size + 1, 2, none⟩ = some (.slice (some ⟨b4, off4, none⟩) ats2.length c7) ∧ w'.cell? ⟨b3, off3 + k * 2, none⟩ = some (.string m1) ∧ w'.cell? ⟨b3, off3 + k * 2 + 1, none⟩ = some (.string x1) ∧ w'.cell? ⟨b4, off4 + k * 2, none⟩ = some (.string m2) ∧ w'.cell? ⟨b4, off4 + k * 2 + 1, none⟩ = some (.string x2))
                          (first
                            | go_keep
                            | assumption)
                          (first
                            | fail)
                        go_wp2_with (fail)
                        go_roundw
                        case rel => exact ⟨k + 1, by omega, by rw [IntWalk.wrap64_in _ (by have := hb63.out; omega)]; rfl, hA, hbi.trans ((Below.refl _ wr).drew.mono (by have := hbi.size; omega)), hx8.below ((Below.refl _ wr).drew) hx8.lt, hy8.below ((Below.refl _ wr).drew) hy8.lt⟩
                        case measure => clear hA hsd; rw [IntWalk.wrap64_in _ (by have := hb63.out; omega)]; exact meas_nat hlk
                  · obtain rfl : k = ats1.length := by omega
                    have hs : Hid (M3.sameA ats1 ats2 = true) := by
                      show _ = _
                      rw [hA.out, List.drop_length, hla.out, List.drop_length]; rfl
                    clear hA
                    go_wp2_with (fail)
                    refine (hih.out _ hbi).mono ?_
                    rintro e w9 ⟨rfl, hb9⟩
                    have hzi := hbi.size
                    have hbo : Below wo.heap.size wo w9 := hbi.trans (hb9.mono hzi)
                    generalize M3.sameN ks1 ks2 = r at *
                    cases r
                    · go_wp2_with (fail)
                      go_ret
                      exact ⟨by rw [hsd.out, hs.out]; rfl, hbw.trans (hbo.mono hzw)⟩
                    · go_wp2_with (fail)
                      go_roundw
                      case rel => exact ⟨i + 1, by omega, by go_num, by show _ = _; rw [hsd.out, hs.out]; simp, hbw.trans (hbo.mono hzw)⟩
                      case measure => simp [intOf]; omega
              · have hla1 : ((ats1.length : Int) == (ats2.length : Int)) = false := by simpa using fun h => hla (by omega)
                replace hsd : Hid (M3.sameN a b = false) := by show _ = _; rw [hsd, M3.sameA_len _ _ hla]; simp
                go_wp2_with (fail)
                go_ret
                exact ⟨by rw [hsd.out]; rfl, hbw.trans (hB2.mono hzw)⟩
      · obtain rfl : i = a.length := by omega
        have hs : Hid (M3.sameN a b = true) := by
          show _ = _
          rw [hv.out, List.drop_length, hne.out, List.drop_length]; exact M3.sameN_nil
        clear hv
        go_wp2
        go_ret
        exact ⟨by rw [hs.out]; rfl, hbw⟩
  · have hs : Hid (M3.sameN a b = false) := M3.sameN_len a b hne
    have hz : ((a.length : Int) == (b.length : Int)) = false := by simpa using fun h => hne (by omega)
    go_enter Try.func22, Try.ntmps22
    go_wp2
    go_ret
    exact ⟨by rw [hs.out]; rfl, Below.refl _ _⟩
end Go.Proofs.Ytjelmpajphajfaa
