/- Texts joined: Ref05j, Ref05k, Law05, Law05e, Law05t. -/
import Derived.Deep.QuietTactic
import Derived.Test.YtlknmnldblodbaaH1
import Derived.Test.YtlknmnldblodbaaH2
import Derived.Test.YtlknmnldblodbaaH3
import Derived.Test.YtlknmnldblodbaaH4
import Derived.Test.YtlknmnldblodbaaH5
/- Reference 5: a text's tokens. -/
namespace Go.Proofs.Ytlknmnldblodbaa
open Go.RowKit

def pieceL (L : List UInt8) (a i : Nat) : List UInt8 := (L.drop a).take (i - a)
theorem piece_snoc (s : ByteArray) (a i : Nat) (ha : a ≤ i) (hi : i < s.size) : pieceL s.data.toList a (i + 1) = pieceL s.data.toList a i ++ [s[i]] := by
  unfold pieceL
  have h : i - a < (s.data.toList.drop a).length := by rw [List.length_drop]; show i - a < s.size - a; omega
  rw [show i + 1 - a = (i - a) + 1 by omega, List.take_succ_eq_append_getElem h, List.getElem_drop]
  congr 2
  have hi2 : i < s.data.toList.length := hi
  have e : ∀ j (hj : j < s.data.toList.length), j = i → s.data.toList[j] = s.data.toList[i] := fun j hj h => by subst h; rfl
  exact e _ _ (by omega)
theorem piece_nil (L : List UInt8) (a : Nat) : pieceL L a a = [] := by unfold pieceL; rw [Nat.sub_self]; rfl
theorem piece_cut (s : ByteArray) (a i : Nat) : s.extract a i = M5.bs (pieceL s.data.toList a i) := bs_cut s a i
theorem charsT_ne {p : List UInt8} (h : p ≠ []) : M5.charsT p = [⟨3, ⟨#[]⟩, [], M5.bs (M2.decode p)⟩] := by
  unfold M5.charsT
  rw [if_neg]
  rw [Bool.not_eq_true, List.isEmpty_eq_false_iff]
  exact h
theorem piece_ne (s : ByteArray) (a i : Nat) (h : a < i) (hi : i ≤ s.size) : pieceL s.data.toList a i ≠ [] := fun e => by
  have := congrArg List.length e
  unfold pieceL at this
  rw [List.length_take, List.length_drop, List.length_nil] at this
  have h2 : s.data.toList.length = s.size := rfl
  omega
theorem tok_one (k : Int) (nm : ByteArray) (a : Option Addr) (n c : Nat) (tx : ByteArray) : ∀ u ∈ [Value.int .i64 k, .string nm, .slice a n c, .string tx], u.oneCell' = true := by
  intro u hu
  simp only [List.mem_cons, List.not_mem_nil, or_false] at hu
  rcases hu with rfl | rfl | rfl | rfl <;> rfl
theorem fold_len5 (l : List UInt8) : (M1.fold l).length = l.length := by unfold M1.fold; rw [List.length_map]
theorem bs_size5 (l : List UInt8) : (M5.bs l).size = l.length := by
  show (M5.bs l).data.size = _
  rw [← Array.length_toList, M5.bs_data]
theorem begin_name_le5 (l : List UInt8) : (M5.beginR l).1.name.size ≤ l.length := by
  unfold M5.beginR
  split
  · show (M5.bs (M1.fold ((l.drop 1).takeWhile M5.nameB))).size ≤ _
    rw [bs_size5, fold_len5]
    have h1 := (List.takeWhile_prefix (l := l.drop 1) M5.nameB).length_le
    have h2 : (l.drop 1).length = l.length - 1 := List.length_drop
    omega
  · exact Nat.zero_le _
theorem tag_name_le5 (l : List UInt8) : (M5.tagR l).1.name.size ≤ l.length := by
  unfold M5.tagR
  split
  · split
    · rename_i c d r _
      split
      · exact begin_name_le5 _
      · split
        · exact Nat.zero_le _
        · split
          · exact Nat.zero_le _
          · split
            · split
              · show (M5.bs (M1.fold (r.takeWhile M5.nameB))).size ≤ _
                rw [bs_size5, fold_len5]
                have h1 := (List.takeWhile_prefix (l := r) M5.nameB).length_le
                simp only [List.length_cons]
                omega
              · exact Nat.zero_le _
            · exact Nat.zero_le _
    · exact Nat.zero_le _
  · exact Nat.zero_le _
theorem own_new5 {w w0 : World} {B n : Nat} {v va : Value} {l : List Tok} {xs : List Value} (h : w.ownsRow w0.heap.size 44 2 va n xs) (hl : Toks w0 B v l) (hB : B ≤ w0.heap.size) : Row (fun b => B ≤ b ∧ b < w.heap.size ∧ v.ownBlock ≠ some b) w 2 va n xs :=
  Row.own h (fun g hg => by
    have h1 := h.lt g hg
    exact ⟨by omega, h1.2, fun e => by have := (hl.lt e).2; omega⟩)
theorem cellB5 {B : Nat} {w w' : World} (hb : Below B w w') {b o : Nat} {v : Value} (h : w.cell? ⟨b, o, none⟩ = some v) (hlt : b < B) : w'.cell? ⟨b, o, none⟩ = some v := (hb.cell (p := ⟨b, o, none⟩) hlt).trans h
def RToksPost (l : List Tok) (w : World) (e : Ending) (w' : World) : Prop := ∃ v, e = .returned v ∧ Toks w' w.heap.size v l ∧ Below w.heap.size w w'

set_option maxHeartbeats 8000000 in
set_option maxRecDepth 100000 in
theorem ref05Tokens (s : ByteArray) (w : World) (hs : s.size ≤ 1073741824) : Calls Try.prog 13 #[.string s] w (RToksPost (M5.tokens s.data.toList) w) := by
  obtain ⟨wo, rfl⟩ : ∃ wo : World, wo = w := ⟨_, rfl⟩
  obtain ⟨T, hT⟩ : ∃ T, Hid (T = M5.tokens s.data.toList) := ⟨_, rfl⟩
  rw [← hT.out]
  have hsl : s.data.toList.length = s.size := rfl
  have hD := Lib.hid (fun (a i : Nat) (w : World) => ref02Decode (s.extract a i) w (by rw [ByteArray.size_extract]; omega))
  go_enter Try.func13, Try.ntmps13
  go_wp2_with fail
  go_loopw [3, 4, 5] (fun u3 u4 u5 wr => ∃ (a i : Nat) (acc : List Tok), u4 = .int .i64 (a : Int) ∧ u5 = .int .i64 (i : Int) ∧ a ≤ i ∧ i ≤ s.size ∧ acc.length ≤ a ∧ Toks wr wo.heap.size u3 acc ∧ Below wo.heap.size wo wr ∧ Hid (T = acc ++ M5.toksR (pieceL s.data.toList a i) (s.data.toList.drop i))) (fun _ _ u5 _ => s.size - (intOf u5).toNat)
  case atStart => exact ⟨0, 0, [], rfl, rfl, Nat.le_refl _, Nat.zero_le _, Nat.le_refl _, Toks.nil _ _, Below.refl _ _, by show _ = _; rw [hT.out, piece_nil, M5.tokens_eq]; rfl⟩
  case round =>
    obtain ⟨a, i, acc, rfl, rfl, hai, his, hal, hl, hbw, hv⟩ := hrel
    by_cases hlt : i < s.size
    · have hS := Lib.hid (fun w => ref05Starts (s.extract i s.size) w (by rw [ByteArray.size_extract]; omega))
      have hxd : (s.extract i s.size).data.toList = s.data.toList.drop i := by rw [Lib.extract_data, List.take_of_length_le (by rw [List.length_drop]; exact Nat.le_refl _)]
      rw [hxd] at hS
      cases hsB : M5.startsB (s.data.toList.drop i)
      · have hv2 : Hid (T = acc ++ M5.toksR (pieceL s.data.toList a (i + 1)) (s.data.toList.drop (i + 1))) := by
          show _ = _
          rw [hv.out]
          rw [drop_cons s i hlt] at hsB ⊢
          rw [M5.toksR_text _ _ _ hsB, piece_snoc s a i hai hlt]
        replace hxd := Lib.hid hxd
        go_wp2_with fail
        refine (hS.out _).mono ?_
        rintro e1 w2 ⟨rfl, rfl⟩
        rw [hsB]
        go_wp2_with fail
        go_roundw
        case rel => exact ⟨a, i + 1, acc, rfl, by go_num, by omega, by omega, hal, hl, hbw, hv2⟩
        case measure => exact rf_meas hlt
      · have hTg := Lib.hid (fun w => ref05Tag (s.extract i s.size) w (by rw [ByteArray.size_extract]; omega))
        rw [hxd] at hTg
        have hxz : (s.extract i s.size).size = s.size - i := by rw [ByteArray.size_extract]; omega
        rw [hxz] at hTg
        obtain ⟨a3, c3, rfl⟩ := hl.slice
        replace hxd := Lib.hid hxd
        go_upto_if 25 with (go_at_call 18; refine (hS.out _).mono ?_; rintro e1 w2 ⟨rfl, rfl⟩; rw [hsB])
        go_cut [3] from 11 to 88 (fun s3 wx => Toks wx wo.heap.size s3 (acc ++ M5.charsT (pieceL s.data.toList a i)) ∧ Below wo.heap.size wo wx)
        case first =>
          by_cases hgt : a < i
          · have hdec := hD.out a i
            rw [show (s.extract a i).data.toList = pieceL s.data.toList a i from Lib.extract_data _ _ _] at hdec
            have hch := charsT_ne (piece_ne s a i hgt his)
            obtain ⟨dv, hdv⟩ : ∃ x, Hid (x = M5.bs (M2.decode (pieceL s.data.toList a i))) := ⟨_, rfl⟩
            have hdec2 : Hid (∀ w, Calls Try.prog 33 #[.string (s.extract a i)] w (fun e w' => e = .returned (.string dv) ∧ Below w.heap.size w w')) := Lib.hid (fun w => (hdec w).mono (by
              rintro e w' ⟨rfl, hb⟩
              exact ⟨by rw [hdv.out]; rfl, hb⟩))
            rw [← hdv.out] at hch
            clear hdec hTg
            replace hch := Lib.hid hch
            have hgti : decide ((a : Int) < (i : Int)) = true := decide_eq_true (by omega)
            go_wp2_with fail
            refine (hdec2.out _).mono ?_
            rintro e1 w2 ⟨rfl, hb2⟩
            obtain ⟨xs, hown, hrep⟩ := hl.below hb2
            have hbw2 := Lib.hid (bt hbw hb2)
            clear hb2
            go_wp2_with (at_builtin; refine wpList_appOne w2 [.int .i64 3, .string ⟨#[]⟩, .slice none 0 0, .string dv] rfl _ _ 25 31 rfl wo.heap.size 4 Try.underlying25 infoT5 rfl (by omega) _ acc.length xs rfl hown w2.heap.size rfl (by rfl) rfl (tok_one _ _ _ _ _ _) (by omega) (by omega) hbw2.out.size ?_; intro gg cap' w5 hown5 hgrow hat5)
            go_meet
            case rel => exact ⟨by rw [hch.out]; exact Toks.snoc (t := ⟨3, ⟨#[]⟩, [], dv⟩) hrep (Row.nil _ _ _) hgrow hat5 hown5, hbw2.out.grown hgrow hbw2.out.size (fun k hk => (hown.lt k hk).1)⟩
          · obtain rfl : a = i := by omega
            have hgti : decide ((a : Int) < (a : Int)) = false := decide_eq_false (by omega)
            go_wp2_with fail
            go_meet
            case rel => exact ⟨by rw [piece_nil]; show Toks wr wo.heap.size _ (acc ++ []); rw [List.append_nil]; exact hl, hbw⟩
        case rest =>
          obtain ⟨hl1, hb1⟩ := hcut
          clear hl hbw hS
          obtain ⟨acc1, hacc1⟩ : ∃ x, Hid (x = acc ++ M5.charsT (pieceL s.data.toList a i)) := ⟨_, rfl⟩
          rw [← hacc1.out] at hl1
          have hal1 : acc1.length ≤ i := by
            rw [hacc1.out, List.length_append]
            by_cases hgt : a < i
            · rw [charsT_ne (piece_ne s a i hgt his)]
              show acc.length + 1 ≤ i
              omega
            · obtain rfl : a = i := by omega
              rw [piece_nil]
              exact hal
          obtain ⟨a4, c4, rfl⟩ := hl1.slice
          have htl := M5.tag_lt (s.data.toList.drop i) hsB
          have hat := (M5.tag_suf (s.data.toList.drop i)).at_
          have hdl : (s.data.toList.drop i).length = s.size - i := List.length_drop
          rw [hdl] at htl hat
          rw [List.drop_drop] at hat
          have hraw := M5.toks_tag (s.data.toList.drop i) hsB
          have hnml := tag_name_le5 (s.data.toList.drop i)
          rw [hdl] at hnml
          obtain ⟨n, hn⟩ : ∃ n, n = s.size - i - (M5.tagR (s.data.toList.drop i)).2.length := ⟨_, rfl⟩
          have hv1 : Hid (T = acc1 ++ M5.toksR [] (s.data.toList.drop i)) := by
            show _ = _
            rw [hv.out, hacc1.out, M5.toksR_tag _ _ hsB, M5.toksR_tag [] _ hsB, List.append_assoc]
            rfl
          rw [← hn] at hTg hat
          have hnp : 0 < n := by omega
          have hnle : i + n ≤ s.size := by omega
          rw [← hat] at hraw
          generalize (M5.tagR (s.data.toList.drop i)).1 = t at *
          clear htl hat
          replace hn := Lib.hid hn
          replace hraw := Lib.hid hraw
          go_upto_if 47 with (go_at_call 16; refine (hTg.out _).mono ?_; rintro e1 w2 ⟨va, rfl, hown2, hb2⟩; obtain ⟨a5, c5, rfl⟩ := own_slice5 hown2)
          have bt3 := Box.new w2 31 [.int .i64 t.kind, .string t.name, .slice a5 t.attrs.length c5, .string t.text]
          have hb23 := (Below.refl w2.heap.size w2).alloc (Nat.le_refl _) (.cells #[.int .i64 t.kind, .string t.name, .slice a5 t.attrs.length c5, .string t.text] 31)
          have hl3 := (hl1.below hb2).below hb23
          have hrow3 := own_new5 (hown2.alloc (.cells #[.int .i64 t.kind, .string t.name, .slice a5 t.attrs.length c5, .string t.text] 31)) hl1 hb1.size
          have hbw3 := Lib.hid (bt (bt hb1 hb2) hb23)
          have hbt : (Value.slice a4 acc1.length c4).ownBlock ≠ some w2.heap.size := fun e => by have := (hl1.lt e).2; have := hb2.size; omega
          have hj2 : Hid (s.data.toList.drop (i + n) = s.data.toList.drop (i + n)) := rfl
          have hws2 : wo.heap.size ≤ w2.heap.size := Nat.le_trans hb1.size hb2.size
          generalize w2.alloc (.cells #[.int .i64 t.kind, .string t.name, .slice a5 t.attrs.length c5, .string t.text] 31) = w3 at *
          clear hown2 hb2 hb23 hl1 hb1 hTg hj2
          go_cut [3, 5] from 11 to 88 (fun s3 s5 wx => s5 = .int .i64 ((i + n : Nat) : Int) ∧ Toks wx wo.heap.size s3 (acc1 ++ M5.keepT t) ∧ Box wx w2.heap.size 31 [.int .i64 t.kind, .string t.name, .slice a5 t.attrs.length c5, .string t.text] ∧ Below wo.heap.size wo wx)
          case first =>
            have u0 := bt3.cell (i := 0) rfl
            have u1 := bt3.cell (i := 1) rfl
            have u2 := bt3.cell (i := 2) rfl
            have u3 := bt3.cell (i := 3) rfl
            by_cases hk : t.kind = 0
            · have hk' : (t.kind != 0) = false := by rw [hk]; rfl
              have hkeep : M5.keepT t = [] := by unfold M5.keepT; rw [if_neg (by simpa using hk)]
              replace hk := Lib.hid hk
              go_wp2_with fail
              go_meet
              case rel => exact ⟨by rw [Int.natCast_add], by rw [hkeep, List.append_nil]; exact hl3, bt3, hbw3.out⟩
            · have hk' : (t.kind != 0) = true := bne_iff_ne.2 hk
              have hkeep : M5.keepT t = [t] := by unfold M5.keepT; rw [if_pos hk]
              replace hk := Lib.hid hk
              obtain ⟨xs, hown, hrep⟩ := hl3
              have hbw3s := hbw3.out.size
              go_wp2_with (at_builtin; refine wpList_appOne w3 [.int .i64 t.kind, .string t.name, .slice a5 t.attrs.length c5, .string t.text] rfl _ _ 25 31 rfl wo.heap.size 4 Try.underlying25 infoT5 rfl (by omega) _ acc1.length xs rfl hown w3.heap.size rfl (by rfl) rfl (tok_one _ _ _ _ _ _) (by omega) (by omega) hbw3s ?_; intro gg cap' w5 hown5 hgrow hat5)
              go_meet
              case rel => exact ⟨by rw [Int.natCast_add], by rw [hkeep]; exact Toks.snoc (t := t) hrep hrow3 hgrow hat5 hown5, bt3.keep (hgrow.block _ bt3.lt (Ne.symm hbt)), hbw3.out.grown hgrow hbw3s (fun k hk => (hown.lt k hk).1)⟩
          case rest =>
            clear hl3 hrow3 bt3 hbw3 hbt
            obtain ⟨rfl, hl4, bt4, hb4⟩ := hcut
            obtain ⟨acc2, hacc2⟩ : ∃ x, Hid (x = acc1 ++ M5.keepT t) := ⟨_, rfl⟩
            rw [← hacc2.out] at hl4
            have hal2 : acc2.length ≤ i + 1 := by
              rw [hacc2.out, List.length_append]
              have : (M5.keepT t).length ≤ 1 := by unfold M5.keepT; split <;> simp
              omega
            have hv2 : Hid (T = acc2 ++ ((M5.rawT t (s.data.toList.drop (i + n))).1 ++ M5.toksR [] (M5.rawT t (s.data.toList.drop (i + n))).2)) := by
              show _ = _
              rw [hv1.out, hraw.out, hacc2.out, List.append_assoc]
              rfl
            obtain ⟨a6, c6, rfl⟩ := hl4.slice
            have hij : i + 1 ≤ i + n := by omega
            replace hraw := Lib.hid hraw
            clear hraw hn
            generalize i + n = j at *
            have hRaw := Lib.hid (fun w => ref03Raw t.name w)
            have u0 := bt4.cell (i := 0) rfl
            have u1 := bt4.cell (i := 1) rfl
            by_cases hk1 : t.kind = 1
            · have ek : (t.kind == 1) = true := beq_iff_eq.2 hk1
              cases hrw : M3.rawB t.name.data.toList
              · have hrt := M5.rawT_not t (s.data.toList.drop j) (fun h => by rw [hrw] at h; cases h.2)
                rw [hrt] at hv2
                replace hrt := Lib.hid hrt
                replace hk1 := Lib.hid hk1
                go_wp2_with fail
                refine (hRaw.out _).mono ?_
                rintro e1 w5 ⟨rfl, rfl⟩
                rw [hrw]
                go_wp2_with fail
                go_roundw
                case rel => exact ⟨j, j, acc2, rfl, rfl, Nat.le_refl _, hnle, by omega, hl4, hb4, by show _ = _; rw [hv2.out, piece_nil]; rfl⟩
                case measure => simp [intOf]; omega
              · have hrt := M5.rawT_raw t (s.data.toList.drop j) ⟨hk1, hrw⟩
                replace hk1 := Lib.hid hk1
                have hEs := Lib.hid (fun w => ref05Ends (s.extract j s.size) t.name w (by rw [ByteArray.size_extract]; omega) (by omega))
                have hxj : (s.extract j s.size).data.toList = s.data.toList.drop j := by rw [Lib.extract_data, List.take_of_length_le (by rw [List.length_drop]; exact Nat.le_refl _)]
                rw [hxj] at hEs
                have hdj : (s.data.toList.drop j).length = s.size - j := List.length_drop
                obtain ⟨E, hE⟩ : ∃ E, Hid (E = M5.endN t.name.data.toList (s.data.toList.drop j)) := ⟨_, rfl⟩
                have hEle : E ≤ s.size - j := by rw [hE.out, ← hdj]; exact M5.endN_le _ _
                rw [← hE.out] at hrt
                have hEv : Hid (E = match M5.endsL ([60, 47] ++ t.name.data.toList) (s.data.toList.drop j) with | some k => k | none => s.size - j) := by
                  show _ = _
                  rw [hE.out, ← hdj]
                  unfold M5.endN
                  try (cases M5.endsL ([60, 47] ++ t.name.data.toList) (s.data.toList.drop j) <;> rfl)
                go_upto_region 16 with (go_at_call 23; refine (hRaw.out _).mono ?_; rintro e1 w5 ⟨rfl, rfl⟩; rw [hrw])
                obtain ⟨O, hO⟩ : ∃ O, Hid (O = M5.endsL ([60, 47] ++ t.name.data.toList) (s.data.toList.drop j)) := ⟨M5.endsL ([60, 47] ++ t.name.data.toList) (s.data.toList.drop j), Lib.hid rfl⟩
                rw [← hO.out] at hEs hEv
                clear hRaw hE hO
                have b1 : (0 : Int) ≤ (j : Int) := by omega
                have b2 : (j : Int) ≤ (s.size : Int) := by omega
                refine wp_region_known (n := 7) ([some (Value.string s), some (Value.int IntKind.i64 (j : Int)), some (.string (s.extract j s.size)), some (.pointer (some ⟨w2.heap.size, 1, none⟩)), some (.string t.name), some (.int .i64 (endV O)), some (.int .i64 (endV O))] : List (Option Value)) (fun tt => ⟨#[Value.string s, undef, Value.slice none 0 0, Value.slice a6 acc2.length c6, Value.int IntKind.i64 (a : Int), Value.int IntKind.i64 (j : Int), Value.bool true, Value.pointer (some ⟨w2.heap.size, 0, none⟩), Value.int IntKind.i64 (n : Int), Value.bool true, tt 6, u11, u12, u13, u14, u15, u16, u17, u18, u19, u20, u21, u22, u23, u24, u25, u26, u27, u28, u29, u30, u31, u32, u33, u34, u35, u36, u37, u38, u39, u40, u41, u42, u43, u44, u45, u46, u47, u48, u49, u50, u51, Value.pointer (some ⟨w2.heap.size, 1, none⟩), Value.string t.name, Value.bool true, Value.pointer (some ⟨w2.heap.size, 0, none⟩), Value.int IntKind.i64 t.kind, Value.bool true, Value.bool true, Value.bool true, Value.bool true, tt 0, tt 1, tt 2, tt 3, tt 4, tt 5, u67, u68, u69, u70, u71, u72, u73, u74, u75, u76, u77, u78, u79, u80, u81, u82, u83, u84, u85, u86, u87, u88, undef, undef, undef, undef, undef, undef, undef, undef, undef, undef, undef, undef, undef], []⟩) (fun f tt W => Below w5.heap.size w5 W) (fun j => match j with | 0 => u61 | 1 => u62 | 2 => u63 | 3 => u64 | 4 => u65 | 5 => u66 | 6 => u10 | _ => undef) (by kernel_rfl) (by rfl) (by rfl) (by kernel_rfl) rfl ?i0 ?step ?fin
                case i0 =>
                  exact (Below.refl _ w5).drew
                case step =>
                  intro j0 hj0 f tt W hfi hwt hk2 hI
                  have s0 := cellB5 hI u1 bt4.lt
                  obtain rfl | rfl | rfl | rfl | rfl | rfl | rfl : j0 = 0 ∨ j0 = 1 ∨ j0 = 2 ∨ j0 = 3 ∨ j0 = 4 ∨ j0 = 5 ∨ j0 = 6 := by omega
                  · -- operation 0
                    replace hI := Lib.hid hI
                    replace hk2 := Lib.hid hk2
                    clear hwt
                    refine wpOp_step rfl (fun K hK => ?_)
                    go_simp
                    exact hK _ _ ⟨_, by simp [updT], hk2.out.at_ rfl, hI.out⟩
                  · -- operation 1
                    replace hI := Lib.hid hI
                    replace hk2 := Lib.hid hk2
                    clear hwt
                    refine wpOp_step rfl (fun K hK => ?_)
                    go_simp
                    exact hK _ _ ⟨_, by simp [updT], hk2.out.at_ rfl, hI.out⟩
                  · -- operation 2
                    have e0 : tt 0 = Value.string s := hk2 0 _ (hwt 0 (by kernel_rfl)) rfl
                    have e1 : tt 1 = Value.int IntKind.i64 (j : Int) := hk2 1 _ (hwt 1 (by kernel_rfl)) rfl
                    replace hI := Lib.hid hI
                    replace hk2 := Lib.hid hk2
                    clear hwt
                    refine wpOp_step rfl (fun K hK => ?_)
                    go_simp
                    exact hK _ _ ⟨_, by simp [updT, e0, e1], hk2.out.at_ rfl, hI.out⟩
                  · -- operation 3
                    replace hI := Lib.hid hI
                    replace hk2 := Lib.hid hk2
                    clear hwt
                    refine wpOp_step rfl (fun K hK => ?_)
                    go_simp
                    exact hK _ _ ⟨_, by simp [updT], hk2.out.at_ rfl, hI.out⟩
                  · -- operation 4
                    have e3 : tt 3 = .pointer (some ⟨w2.heap.size, 1, none⟩) := hk2 3 _ (hwt 3 (by kernel_rfl)) rfl
                    replace hI := Lib.hid hI
                    replace hk2 := Lib.hid hk2
                    clear hwt
                    refine wpOp_step rfl (fun K hK => ?_)
                    go_simp
                    exact hK _ _ ⟨_, by simp [updT, e3], hk2.out.at_ rfl, hI.out⟩
                  · -- operation 5
                    have e2 : tt 2 = .string (s.extract j s.size) := hk2 2 _ (hwt 2 (by kernel_rfl)) rfl
                    have e4 : tt 4 = .string t.name := hk2 4 _ (hwt 4 (by kernel_rfl)) rfl
                    have hC := Lib.hid (hEs.out W)
                    replace hk2 := Lib.hid hk2
                    replace hI := Lib.hid hI
                    clear hwt
                    refine wpOp_step rfl (fun K hK => ?_)
                    go_simp
                    refine hC.out.mono ?_
                    rintro e w6 ⟨rfl, hb6⟩
                    exact hK _ _ ⟨_, by simp [updT, e2, e4], hk2.out.at_ rfl, bt hI.out hb6⟩
                  · -- operation 6
                    have e5 : tt 5 = .int .i64 (endV O) := hk2 5 _ (hwt 5 (by kernel_rfl)) rfl
                    replace hI := Lib.hid hI
                    replace hk2 := Lib.hid hk2
                    clear hwt
                    refine wpOp_step rfl (fun K hK => ?_)
                    go_simp
                    exact hK _ _ ⟨_, by simp [updT, e5], hk2.out.at_ rfl, hI.out⟩
                case fin =>
                  intro f tt W hall hk2 hI
                  have hI2 := hI
                  have e10 := hk2 6 _ (hall 6 (by omega)) rfl
                  clear hk2 hall
                  dsimp only
                  rw [e10]
                  rw [hrt, List.drop_drop] at hv2
                  have hlW := hl4.below hI2
                  have hbW := Lib.hid (bt hb4 hI2)
                  have hbWs := hbW.out.size
                  obtain ⟨Wo, rfl⟩ : ∃ X : World, X = W := ⟨_, rfl⟩
                  go_upto_if 68 with fail
                  go_cut [10] from 11 to 88 (fun s10 wx => s10 = .int .i64 (E : Int) ∧ Wo = wx)
                  case first =>
                    cases hO2 : O with
                    | none =>
                      rw [hO2] at hEv
                      have hEe : (s.size : Int) - (j : Int) = (E : Int) := by rw [hEv.out]; show _ = ((s.size - j : Nat) : Int); omega
                      have hev : endV none = -1 := rfl
                      go_wp2_with fail
                      go_meet
                      case rel => exact ⟨rfl, rfl⟩
                    | some k =>
                      rw [hO2] at hEv
                      have hEe : E = k := hEv.out
                      have hev : endV (some k) = (k : Int) := rfl
                      subst hEe
                      have hneg : decide ((E : Int) < 0) = false := decide_eq_false (by omega)
                      go_wp2_with fail
                      go_meet
                      case rel => exact ⟨rfl, rfl⟩
                  case rest =>
                    obtain ⟨rfl, rfl⟩ := hcut
                    by_cases hE0 : E = 0
                    · subst hE0
                      go_wp2_with fail
                      go_roundw
                      case rel => exact ⟨j, j, acc2, rfl, rfl, Nat.le_refl _, hnle, by omega, hlW, hbW.out, by show _ = _; rw [hv2.out, piece_nil]; rfl⟩
                      case measure => simp [intOf]; omega
                    · have hgt : decide ((0 : Int) < (E : Int)) = true := decide_eq_true (by omega)
                      have hkc : Hid (M5.keepT (M5.contC E (s.data.toList.drop j)) = [⟨3, ⟨#[]⟩, [], s.extract j (j + E)⟩]) := by
                        show _ = _
                        rw [piece_cut, M5.contC, if_neg hE0]
                        unfold pieceL
                        rw [Nat.add_sub_cancel_left]
                        rfl
                      obtain ⟨xs, hown, hrep⟩ := hlW
                      go_wp2_with (at_builtin; refine wpList_appOne Wo [.int .i64 3, .string ⟨#[]⟩, .slice none 0 0, .string (s.extract j (j + E))] rfl _ _ 25 31 rfl wo.heap.size 4 Try.underlying25 infoT5 rfl (by omega) _ acc2.length xs rfl hown Wo.heap.size rfl (by rfl) rfl (tok_one _ _ _ _ _ _) (by omega) (by omega) hbWs ?_; intro gg cap' w7 hown7 hgrow hat7)
                      go_roundw
                      case rel => exact ⟨j + E, j + E, acc2 ++ [⟨3, ⟨#[]⟩, [], s.extract j (j + E)⟩], by rw [Int.natCast_add], by rw [Int.natCast_add], Nat.le_refl _, by omega, by rw [List.length_append]; show acc2.length + 1 ≤ j + E; omega, Toks.snoc (t := ⟨3, ⟨#[]⟩, [], s.extract j (j + E)⟩) hrep (Row.nil _ _ _) hgrow hat7 hown7, hbW.out.grown hgrow hbWs (fun k hk => (hown.lt k hk).1), by show _ = _; rw [hv2.out, piece_nil, hkc.out, List.append_assoc]⟩
                      case measure => simp [intOf]; omega
            · have ek : (t.kind == 1) = false := beq_eq_false_iff_ne.2 hk1
              have hrt := M5.rawT_not t (s.data.toList.drop j) (fun h => hk1 h.1)
              rw [hrt] at hv2
              replace hrt := Lib.hid hrt
              replace hk1 := Lib.hid hk1
              go_wp2_with fail
              refine (hRaw.out _).mono ?_
              rintro e1 w5 ⟨rfl, rfl⟩
              go_wp2_with fail
              go_roundw
              case rel => exact ⟨j, j, acc2, rfl, rfl, Nat.le_refl _, hnle, by omega, hl4, hb4, by show _ = _; rw [hv2.out, piece_nil]; rfl⟩
              case measure => simp [intOf]; omega
    · obtain rfl : i = s.size := by omega
      have hv2 : Hid (T = acc ++ M5.charsT (pieceL s.data.toList a s.size)) := by show _ = _; rw [hv.out, drop_end s s.size (Nat.le_refl _), M5.toksR_nil]
      obtain ⟨a3, c3, rfl⟩ := hl.slice
      by_cases hgt : a < s.size
      · have hdec := hD.out a s.size
        rw [show (s.extract a s.size).data.toList = pieceL s.data.toList a s.size from Lib.extract_data _ _ _] at hdec
        have hch := charsT_ne (piece_ne s a s.size hgt (Nat.le_refl _))
        obtain ⟨dv, hdv⟩ : ∃ x, Hid (x = M5.bs (M2.decode (pieceL s.data.toList a s.size))) := ⟨_, rfl⟩
        have hdec2 : Hid (∀ w, Calls Try.prog 33 #[.string (s.extract a s.size)] w (fun e w' => e = .returned (.string dv) ∧ Below w.heap.size w w')) := Lib.hid (fun w => (hdec w).mono (by
          rintro e w' ⟨rfl, hb⟩
          exact ⟨by rw [hdv.out]; rfl, hb⟩))
        rw [← hdv.out] at hch
        rw [hch] at hv2
        clear hdec
        replace hch := Lib.hid hch
        have hgti : decide ((a : Int) < (s.size : Int)) = true := decide_eq_true (by omega)
        go_wp2_with fail
        refine (hdec2.out _).mono ?_
        rintro e1 w2 ⟨rfl, hb2⟩
        obtain ⟨xs, hown, hrep⟩ := hl.below hb2
        have hbw2 := Lib.hid (bt hbw hb2)
        clear hb2
        go_wp2_with (at_builtin; refine wpList_appOne w2 [.int .i64 3, .string ⟨#[]⟩, .slice none 0 0, .string dv] rfl _ _ 25 31 rfl wo.heap.size 4 Try.underlying25 infoT5 rfl (by omega) _ acc.length xs rfl hown w2.heap.size rfl (by rfl) rfl (tok_one _ _ _ _ _ _) (by omega) (by omega) hbw2.out.size ?_; intro gg cap' w5 hown5 hgrow hat5)
        go_ret
        exact ⟨_, rfl, by rw [hv2.out]; exact Toks.snoc (t := ⟨3, ⟨#[]⟩, [], dv⟩) hrep (Row.nil _ _ _) hgrow hat5 hown5, hbw2.out.grown hgrow hbw2.out.size (fun k hk => (hown.lt k hk).1)⟩
      · have hgti : decide ((a : Int) < (s.size : Int)) = false := decide_eq_false (by omega)
        obtain rfl : a = s.size := by omega
        rw [piece_nil] at hv2
        go_wp2_with fail
        go_ret
        exact ⟨_, rfl, by rw [hv2.out]; show Toks wr wo.heap.size _ (acc ++ []); rw [List.append_nil]; exact hl, hbw⟩
end Go.Proofs.Ytlknmnldblodbaa

/- Reference 5: tokens that are the same. -/
namespace Go.Proofs.Ytlknmnldblodbaa
open Go.RowKit

theorem Row.below5 {S : Nat → Prop} {w w' : World} {k n : Nat} {v : Value} {xs : List Value} (h : Row S w k v n xs) (hS : ∀ b, S b → b < w.heap.size) (hb : Below w.heap.size w w') : Row S w' k v n xs := h.keep (fun b hb' => hb.block b (hS b hb'))
theorem RepT.below5 {S : Nat → Prop} {w w' : World} {xs : List Value} {l : List Tok} (h : RepT S w xs l) (hS : ∀ b, S b → b < w.heap.size) (hb : Below w.heap.size w w') : RepT S w' xs l := RepT.keep (fun b hb' => hb.block b (hS b hb')) _ _ h
/-- A token of a row, at its cells. -/
theorem Row.atT {S : Nat → Prop} {w : World} {a : Option Addr} {n cap : Nat} {xs : List Value} {l : List Tok} (h : Row S w 4 (.slice a n cap) l.length xs) (hr : RepT S w xs l) (i : Nat) (hi : i < l.length) :
    ∃ b off va, a = some ⟨b, off, none⟩ ∧ S b ∧ Row S w 2 va l[i].attrs.length (cellsA l[i].attrs) ∧ w.cell? ⟨b, off + i * 4, none⟩ = some (.int .i64 l[i].kind) ∧ w.cell? ⟨b, off + i * 4 + 1, none⟩ = some (.string l[i].name) ∧ w.cell? ⟨b, off + i * 4 + 2, none⟩ = some va ∧ w.cell? ⟨b, off + i * 4 + 3, none⟩ = some (.string l[i].text) := by
  obtain ⟨_, a', cap', e, _, _, _, h5⟩ := h
  cases e
  obtain ⟨b, off, rfl, hS, hc⟩ := h5 (by omega)
  obtain ⟨va, q0, q1, q2, q3, q4⟩ := RepT.at_ l xs i hi hr
  exact ⟨b, off, va, rfl, hS, q0, hc _ _ q1, by rw [show off + i * 4 + 1 = off + (i * 4 + 1) by omega]; exact hc _ _ q2, by rw [show off + i * 4 + 2 = off + (i * 4 + 2) by omega]; exact hc _ _ q3, by rw [show off + i * 4 + 3 = off + (i * 4 + 3) by omega]; exact hc _ _ q4⟩

theorem cell_heap5 {w w' : World} (h : w'.heap = w.heap) (p : Addr) : w'.cell? p = w.cell? p := World.cell?_of_block (by rw [h])

set_option maxHeartbeats 8000000 in
set_option maxRecDepth 100000 in
theorem ref05Same (l : List Tok) (v1 v2 : Value) (S1 S2 : Nat → Prop) (xs1 xs2 : List Value) (w : World) (hS1 : ∀ b, S1 b → b < w.heap.size) (hS2 : ∀ b, S2 b → b < w.heap.size)
    (h1 : Row S1 w 4 v1 l.length xs1) (hr1 : RepT S1 w xs1 l) (h2 : Row S2 w 4 v2 l.length xs2) (hr2 : RepT S2 w xs2 l) :
    Calls Try.prog 11 #[v1, v2] w fun e w' => e = .returned (.bool true) ∧ Below w.heap.size w w' := by
  obtain ⟨wo, rfl⟩ : ∃ wo : World, wo = w := ⟨_, rfl⟩
  obtain ⟨a1, cap1, rfl⟩ := h1.slice
  obtain ⟨a2, cap2, rfl⟩ := h2.slice
  obtain ⟨_, hl1, hm1⟩ := h1.len
  obtain ⟨_, hl2, hm2⟩ := h2.len
  go_enter Try.func11, Try.ntmps11
  go_wp2_with fail
  go_loopw [5] (fun u5 wr => ∃ i : Nat, i ≤ l.length ∧ u5 = .int .i64 (i : Int) ∧ Below wo.heap.size wo wr) (fun u5 _ => l.length - (intOf u5).toNat)
  case atStart => exact ⟨0, by omega, rfl, Below.refl _ _⟩
  case round =>
    obtain ⟨i, hi, rfl, hbw⟩ := hrel
    by_cases hlt : i < l.length
    · obtain ⟨b1, o1, va1, rfl, hb1, q1, p0, p1, p2, p3⟩ := (h1.below5 hS1 hbw).atT (hr1.below5 hS1 hbw) i hlt
      obtain ⟨b2, o2, va2, rfl, hb2, q2, r0, r1, r2, r3⟩ := (h2.below5 hS2 hbw).atT (hr2.below5 hS2 hbw) i hlt
      obtain ⟨c1, d1, rfl⟩ := q1.slice
      obtain ⟨c2, d2, rfl⟩ := q2.slice
      obtain ⟨_, hq1, hq2⟩ := q1.len
      have hlti : decide ((i : Int) < (l.length : Int)) = true := decide_eq_true (by omega)
      have hI0 : (0 : Int) ≤ (i : Int) := by omega
      have hI1 : (i : Int) < (l.length : Int) := by omega
      generalize l[i] = t at *
      go_wp2_with fail
      go_quiet (fail)
      have hb3 := Lib.hid (below_drewN hbw nq)
      obtain ⟨wq, hwq⟩ : ∃ wq : World, wq = wr.drewN nq := ⟨_, rfl⟩
      have hqh : wq.heap = wr.heap := by rw [hwq]; rfl
      rw [← hwq] at hb3 ⊢
      clear hwq
      go_wp2_with fail
      go_loopw [6] (fun u6 wx => ∃ k : Nat, k ≤ t.attrs.length ∧ u6 = .int .i64 (k : Int) ∧ Hid (wx.heap = wr.heap) ∧ Below wo.heap.size wo wx) (fun u6 _ => t.attrs.length - (intOf u6).toNat)
      case atStart => exact ⟨0, by omega, rfl, Lib.hid hqh, hb3.out⟩
      case round =>
        obtain ⟨k, hk, rfl, hhp, hbx⟩ := hrel
        rename World => wx
        have ce := cell_heap5 hhp.out
        rw [← ce] at p2 r2
        by_cases hkl : k < t.attrs.length
        · obtain ⟨e1, f1, rfl, _, s0, s1⟩ := q1.atA k hkl
          obtain ⟨e2, f2, rfl, _, t0, t1⟩ := q2.atA k hkl
          rw [← ce] at s0 s1 t0 t1
          have hK0 : (0 : Int) ≤ (k : Int) := by omega
          have hK1 : (k : Int) < (t.attrs.length : Int) := by omega
          generalize t.attrs[k].name = an at *
          generalize t.attrs[k].value = av at *
          clear ce
          go_wp2_with fail
          go_quiet (fail)
          go_wp2_with fail
          go_roundw
          case rel => exact ⟨k + 1, by omega, by go_num, by show _ = _; exact hhp.out, below_drewN hbx _⟩
          case measure => simp [intOf]; omega
        · go_wp2_with fail
          go_roundw
          case rel => exact ⟨i + 1, by omega, by go_num, hbx⟩
          case measure => simp [intOf]; omega
    · go_wp2_with fail
      go_ret
      exact ⟨rfl, hbw⟩
end Go.Proofs.Ytlknmnldblodbaa

/- Layer 5's statements: what all of them ask. -/
namespace Go.Proofs.Ytlknmnldblodbaa
open Go.RowKit

def exampleB : List UInt8 := [60, 65, 32, 98, 61, 49, 32, 67, 62, 120, 60, 47, 97, 32, 62]
def exT : List Tok := [⟨1, ⟨#[97]⟩, [⟨⟨#[98]⟩, ⟨#[49]⟩⟩, ⟨⟨#[99]⟩, ⟨#[]⟩⟩], ⟨#[]⟩⟩, ⟨3, ⟨#[]⟩, [], ⟨#[120]⟩⟩, ⟨2, ⟨#[97]⟩, [], ⟨#[]⟩⟩]
theorem example_toks : M5.tokens exampleB = exT := by kernel_rfl
theorem glo_of {w : World} (h : w.ShapedOpen Try.prog) : Glo w := Try.laysM145.s1_3 w h

set_option maxHeartbeats 4000000 in
set_option maxRecDepth 100000 in
theorem lives05 (w : World) (hg : Glo w) : Calls Try.prog 14 #[] w fun e w' => e = .returned (.bool true) ∧ Below w.heap.size w w' := by
  have hT := tokTokens ⟨#[60, 65, 32, 98, 61, 49, 32, 67, 62, 120, 60, 47, 97, 32, 62]⟩ w hg (by decide)
  rw [show M5.tokens (⟨#[60, 65, 32, 98, 61, 49, 32, 67, 62, 120, 60, 47, 97, 32, 62]⟩ : ByteArray).data.toList = exT from example_toks] at hT
  replace hT := Lib.hid hT
  obtain ⟨wo, rfl⟩ : ∃ wo : World, wo = w := ⟨_, rfl⟩
  go_enter Try.func14, Try.ntmps14
  go_wp2_with fail
  refine hT.out.mono ?_
  rintro e1 w1 ⟨v, rfl, hl, hb⟩
  obtain ⟨a, cap, rfl⟩ := hl.slice
  obtain ⟨xs, hrow, hrep⟩ := hl.rows
  obtain ⟨b, off, va, rfl, _, q0, p0, p1, p2, p3⟩ := hrow.atT hrep 0 (by decide)
  obtain ⟨b', off', vb, e2, _, _, r0, r1, _, r3⟩ := hrow.atT hrep 1 (by decide)
  cases e2
  obtain ⟨b', off', vc, e2, _, _, s0, s1, _, _⟩ := hrow.atT hrep 2 (by decide)
  cases e2
  obtain ⟨a1, c1, rfl⟩ := q0.slice
  obtain ⟨g, o, rfl, _, t0, t1⟩ := q0.atA 0 (by decide)
  obtain ⟨g', o', e2, _, u0, u1⟩ := q0.atA 1 (by decide)
  cases e2
  simp only [exT, List.getElem_cons_zero, List.getElem_cons_succ, Nat.zero_mul, Nat.add_zero, Nat.one_mul, List.length_cons, List.length_nil] at p0 p1 p2 p3 r0 r1 r3 s0 s1 t0 t1 u0 u1
  clear hrow hrep q0
  go_wp2_with fail
  go_ret
  exact ⟨rfl, hb⟩

theorem Sl.take8 {w : World} {a : Option Addr} {n cap : Nat} {l : List UInt8} (h : Sl w (.slice a n cap) (u8s l)) (k : Nat) (hk : k ≤ n) : Sl w (.slice a k cap) (u8s (l.take k)) := by
  obtain ⟨a', cap', e, h2, h3, h4, h5⟩ := h
  rw [u8s_length] at *
  cases e
  have hl : (u8s (l.take k)).length = k := by rw [u8s_length, List.length_take]; omega
  refine ⟨a, cap, by rw [hl], by omega, h3, h4, fun hne => ?_⟩
  have hn0 : 0 < k := by
    rcases Nat.eq_zero_or_pos k with h0 | h0
    · subst h0; exact absurd rfl hne
    · exact h0
  obtain ⟨b, off, rfl, hc⟩ := h5 (by
    intro e
    have := congrArg List.length e
    rw [u8s_length] at this
    simp at this
    subst this
    simp at hk
    omega)
  refine ⟨b, off, rfl, fun j hj => ?_⟩
  have hj2 : j < (u8s l).length := by rw [u8s_length]; omega
  rw [hc j hj2]
  congr 1
  have e : u8s (l.take k) = (u8s l).take k := by simp [u8s, Lib.byteCells, List.map_take]
  simp only [e, List.getElem_take]
theorem Sl.len8 {w : World} {v : Value} {l : List UInt8} (h : Sl w v (u8s l)) : ∃ a cap, v = .slice a l.length cap ∧ l.length ≤ cap ∧ cap ≤ 9223372036854775807 := by
  obtain ⟨a, cap, rfl, h2, h3, _, _⟩ := h
  rw [u8s_length] at *
  exact ⟨a, cap, rfl, h2, h3⟩
/-- The bytes that a statement takes, made right. -/
def fewB (l : List UInt8) : List UInt8 := M1.right (l.take 300)
theorem fewB_len (l : List UInt8) : (fewB l).length ≤ 1200 := by
  have := M1.right_len (l.take 300)
  rw [List.length_take] at this
  unfold fewB
  omega

set_option maxHeartbeats 2000000 in
set_option maxRecDepth 100000 in
theorem few05 (v : Value) (l : List UInt8) (w : World) (hs : Sl w v (u8s l)) : Calls Try.prog 10 #[v] w fun e w' => e = .returned (.string (M5.bs (fewB l))) ∧ Below w.heap.size w w' := by
  obtain ⟨a, cap, rfl, hlc, hcm⟩ := hs.len8
  by_cases hgt : 300 < l.length
  · have hR := Lib.hid (ref01Right (.slice a 300 cap) (l.take 300) w (hs.take8 300 (by omega)) (by rw [List.length_take]; omega))
    have hgti : decide ((300 : Int) < (l.length : Int)) = true := decide_eq_true (by omega)
    go_enter Try.func10, Try.ntmps10
    go_wp2_with fail
    refine hR.out.mono ?_
    rintro e1 w1 ⟨rfl, hb⟩
    go_wp2_with fail
    go_ret
    exact ⟨rfl, hb⟩
  · have hgti : decide ((300 : Int) < (l.length : Int)) = false := decide_eq_false (by omega)
    have hR := Lib.hid (ref01Right (.slice a l.length cap) l w hs (by omega))
    have ht : l.take 300 = l := List.take_of_length_le (by omega)
    unfold fewB
    rw [ht]
    go_enter Try.func10, Try.ntmps10
    go_wp2_with fail
    refine hR.out.mono ?_
    rintro e1 w1 ⟨rfl, hb⟩
    go_wp2_with fail
    go_ret
    exact ⟨rfl, hb⟩

set_option maxHeartbeats 2000000 in
set_option maxRecDepth 100000 in
theorem law05TokenTokens (v : Value) (l : List UInt8) (w : World) (hg : Glo w) (hs : Sl w v (u8s l)) : Calls Try.prog 3 #[v] w fun e w' => e = .returned (.bool true) ∧ Below w.heap.size w w' := by
  have hF := Lib.hid (few05 v l w hs)
  have hz : (M5.bs (fewB l)).size ≤ 1073741824 := by rw [bs_size]; have := fewB_len l; omega
  have hT := Lib.hid (fun w hg => tokTokens (M5.bs (fewB l)) w hg hz)
  have hR := Lib.hid (fun w => ref05Tokens (M5.bs (fewB l)) w hz)
  rw [M5.bs_data] at hT hR
  generalize M5.tokens (fewB l) = T at *
  generalize M5.bs (fewB l) = s at *
  obtain ⟨a, cap, rfl, hlc, hcm⟩ := hs.len8
  clear hs
  obtain ⟨wo, rfl⟩ : ∃ wo : World, wo = w := ⟨_, rfl⟩
  go_enter Try.func3, Try.ntmps3
  go_wp2_with fail
  refine hF.out.mono ?_
  rintro e1 w1 ⟨rfl, hb1⟩
  have hg1 := hg.below hb1 (Nat.le_refl _)
  go_wp2_with fail
  refine (hT.out _ hg1).mono ?_
  rintro e1 w2 ⟨v2, rfl, hl2, hb2⟩
  have hb12 := bt hb1 hb2
  obtain ⟨a2, c2, rfl⟩ := hl2.slice
  go_wp2_with fail
  refine (hR.out _).mono ?_
  rintro e1 w3 ⟨v3, rfl, hl3, hb3⟩
  have hb13 := bt hb12 hb3
  have hl23 := hl2.below hb3
  obtain ⟨a3, c3, rfl⟩ := hl3.slice
  obtain ⟨xs2, hr2, hp2⟩ := hl23.rows
  obtain ⟨xs3, hr3, hp3⟩ := hl3.rows
  have hSm := Lib.hid (ref05Same T _ _ _ _ xs2 xs3 w3 (fun b hb => hb.2) (fun b hb => hb.2) hr2 hp2 hr3 hp3)
  go_wp2_with fail
  refine hSm.out.mono ?_
  rintro e1 w4 ⟨rfl, hb4⟩
  have hb14 := bt hb13 hb4
  have hg4 := hg.below hb14 (Nat.le_refl _)
  go_wp2_with fail
  refine (lives05 _ hg4).mono ?_
  rintro e1 w5 ⟨rfl, hb5⟩
  go_wp2_with fail
  go_ret
  exact ⟨rfl, bt hb14 hb5⟩
end Go.Proofs.Ytlknmnldblodbaa

/- Statement TokenEnds. -/
namespace Go.Proofs.Ytlknmnldblodbaa
open Go.RowKit

set_option maxHeartbeats 2000000 in
set_option maxRecDepth 100000 in
theorem law05TokenEnds (v : Value) (l : List UInt8) (nm : ByteArray) (w : World) (hg : Glo w) (hs : Sl w v (u8s l)) (hn : nm.size ≤ 9223372036854775807) : Calls Try.prog 5 #[v, .string nm] w fun e w' => e = .returned (.bool true) ∧ Below w.heap.size w w' := by
  have hF := Lib.hid (few05 v l w hs)
  have hz : (M5.bs (fewB l)).size ≤ 1073741824 := by rw [bs_size]; have := fewB_len l; omega
  obtain ⟨s, hse⟩ : ∃ s, Hid (s = M5.bs (fewB l)) := ⟨_, rfl⟩
  rw [← hse.out] at hz hF
  have hN := Lib.hid (fun w => ref03Named nm w hn)
  have hA := Lib.hid (fun (m : ByteArray) (hm : m.size ≤ 1073741824) w => tokEnds s m w hz hm)
  have hB := Lib.hid (fun (m : ByteArray) (hm : m.size ≤ 1073741824) w => ref05Ends s m w hz hm)
  obtain ⟨a, cap, rfl, hlc, hcm⟩ := hs.len8
  clear hs
  obtain ⟨wo, rfl⟩ : ∃ wo : World, wo = w := ⟨_, rfl⟩
  have key : ∀ (m : ByteArray), m.size ≤ 1073741824 → (nm.size ≤ 20 ∧ M3.namedB nm.data.toList = true → m = nm) → (¬ (nm.size ≤ 20 ∧ M3.namedB nm.data.toList = true) → m = ⟨#[115, 99, 114, 105, 112, 116]⟩) → Calls Try.prog 5 #[.slice a l.length cap, .string nm] wo fun e w' => e = .returned (.bool true) ∧ Below wo.heap.size wo w' := by
    intro m hm h1 h2
    have hA1 := Lib.hid (hA.out m hm)
    have hB1 := Lib.hid (hB.out m hm)
    have hA2 := Lib.hid (hA.out ⟨#[115, 116, 121, 108, 101]⟩ (by decide))
    have hB2 := Lib.hid (hB.out ⟨#[115, 116, 121, 108, 101]⟩ (by decide))
    by_cases hgt : 20 < nm.size
    · obtain rfl := h2 (fun h => by omega)
      have hgti : decide ((20 : Int) < (nm.size : Int)) = true := decide_eq_true (by omega)
      go_enter Try.func5, Try.ntmps5
      go_wp2_with fail
      refine hF.out.mono ?_
      rintro e1 w1 ⟨rfl, hb1⟩
      go_wp2_with fail
      refine (hN.out _).mono ?_
      rintro e1 w1 ⟨rfl, rfl⟩
      go_wp2_with fail
      refine (hA1.out _).mono ?_
      rintro e1 w2 ⟨rfl, hb2⟩
      have hb12 := bt hb1 hb2
      go_wp2_with fail
      refine (hB1.out _).mono ?_
      rintro e1 w3 ⟨rfl, hb3⟩
      have hb13 := bt hb12 hb3
      go_wp2_with fail
      refine (hA2.out _).mono ?_
      rintro e1 w4 ⟨rfl, hb4⟩
      have hb14 := bt hb13 hb4
      go_wp2_with fail
      refine (hB2.out _).mono ?_
      rintro e1 w5 ⟨rfl, hb5⟩
      have hb15 := bt hb14 hb5
      go_wp2_with fail
      refine (lives05 _ (hg.below hb15 (Nat.le_refl _))).mono ?_
      rintro e1 w6 ⟨rfl, hb6⟩
      go_wp2_with fail
      go_ret
      exact ⟨rfl, bt hb15 hb6⟩
    · have hgti : decide ((20 : Int) < (nm.size : Int)) = false := decide_eq_false (by omega)
      cases hnd : M3.namedB nm.data.toList
      · obtain rfl := h2 (fun h => by rw [hnd] at h; cases h.2)
        go_enter Try.func5, Try.ntmps5
        go_wp2_with fail
        refine hF.out.mono ?_
        rintro e1 w1 ⟨rfl, hb1⟩
        go_wp2_with fail
        refine (hN.out _).mono ?_
        rintro e1 w1 ⟨rfl, rfl⟩
        rw [hnd]
        go_wp2_with fail
        refine (hA1.out _).mono ?_
        rintro e1 w2 ⟨rfl, hb2⟩
        have hb12 := bt hb1 hb2
        go_wp2_with fail
        refine (hB1.out _).mono ?_
        rintro e1 w3 ⟨rfl, hb3⟩
        have hb13 := bt hb12 hb3
        go_wp2_with fail
        refine (hA2.out _).mono ?_
        rintro e1 w4 ⟨rfl, hb4⟩
        have hb14 := bt hb13 hb4
        go_wp2_with fail
        refine (hB2.out _).mono ?_
        rintro e1 w5 ⟨rfl, hb5⟩
        have hb15 := bt hb14 hb5
        go_wp2_with fail
        refine (lives05 _ (hg.below hb15 (Nat.le_refl _))).mono ?_
        rintro e1 w6 ⟨rfl, hb6⟩
        go_wp2_with fail
        go_ret
        exact ⟨rfl, bt hb15 hb6⟩
      · obtain rfl := h1 ⟨by omega, hnd⟩
        go_enter Try.func5, Try.ntmps5
        go_wp2_with fail
        refine hF.out.mono ?_
        rintro e1 w1 ⟨rfl, hb1⟩
        go_wp2_with fail
        refine (hN.out _).mono ?_
        rintro e1 w1 ⟨rfl, rfl⟩
        rw [hnd]
        go_wp2_with fail
        refine (hA1.out _).mono ?_
        rintro e1 w2 ⟨rfl, hb2⟩
        have hb12 := bt hb1 hb2
        go_wp2_with fail
        refine (hB1.out _).mono ?_
        rintro e1 w3 ⟨rfl, hb3⟩
        have hb13 := bt hb12 hb3
        go_wp2_with fail
        refine (hA2.out _).mono ?_
        rintro e1 w4 ⟨rfl, hb4⟩
        have hb14 := bt hb13 hb4
        go_wp2_with fail
        refine (hB2.out _).mono ?_
        rintro e1 w5 ⟨rfl, hb5⟩
        have hb15 := bt hb14 hb5
        go_wp2_with fail
        refine (lives05 _ (hg.below hb15 (Nat.le_refl _))).mono ?_
        rintro e1 w6 ⟨rfl, hb6⟩
        go_wp2_with fail
        go_ret
        exact ⟨rfl, bt hb15 hb6⟩
  by_cases h : nm.size ≤ 20 ∧ M3.namedB nm.data.toList = true
  · exact key nm (by omega) (fun _ => rfl) (fun h' => absurd h h')
  · exact key _ (by decide) (fun h' => absurd h' h) (fun _ => rfl)
end Go.Proofs.Ytlknmnldblodbaa

/- Statement TokenTags. -/
namespace Go.Proofs.Ytlknmnldblodbaa
open Go.RowKit

theorem Row.fresh5 {w : World} {S : Nat → Prop} {g k : Nat} {t : TypeId} {cs : List Value} (h : Box w g t cs) (hS : S g) (hl : cs.length = k) : Row S w k (.slice (some ⟨g, 0, none⟩) 1 1) 1 cs :=
  ⟨by omega, some ⟨g, 0, none⟩, 1, rfl, Nat.le_refl _, by omega, (fun e => nomatch e), fun _ => ⟨g, 0, rfl, hS, fun j u hu => by rw [Nat.zero_add]; exact h.cell hu⟩⟩
theorem same_one (t : Tok) (va vb : Value) (g1 g2 : Nat) (w : World) (h1 : Box w g1 31 (t.cells va)) (h2 : Box w g2 31 (t.cells vb)) (ha : Row (fun b => b < w.heap.size) w 2 va t.attrs.length (cellsA t.attrs)) (hb : Row (fun b => b < w.heap.size) w 2 vb t.attrs.length (cellsA t.attrs)) :
    Calls Try.prog 11 #[.slice (some ⟨g1, 0, none⟩) 1 1, .slice (some ⟨g2, 0, none⟩) 1 1] w fun e w' => e = .returned (.bool true) ∧ Below w.heap.size w w' :=
  ref05Same [t] _ _ (fun b => b < w.heap.size) (fun b => b < w.heap.size) (t.cells va) (t.cells vb) w (fun b h => h) (fun b h => h) (Row.fresh5 h1 h1.lt rfl) ⟨va, [], by simp, ha, rfl⟩ (Row.fresh5 h2 h2.lt rfl) ⟨vb, [], by simp, hb, rfl⟩
def TagI (w0 : World) (cA cB : List Value) (f : Nat → Bool) (t : Nat → Value) (W : World) : Prop :=
  Below w0.heap.size w0 W ∧ (f 16 = true → ∃ g, t 16 = .slice (some ⟨g, 0, none⟩) 1 1 ∧ Box W g 31 cA) ∧ (f 18 = true → ∃ g, t 18 = .slice (some ⟨g, 0, none⟩) 1 1 ∧ Box W g 31 cB)
theorem TagI.start (w0 : World) (cA cB : List Value) (n : Nat) (hn : 18 < n) (t : Nat → Value) : TagI w0 cA cB (fun j => decide (n ≤ j)) t w0.drew :=
  ⟨(Below.refl _ w0).drew, fun h => by simp at h; omega, fun h => by simp at h; omega⟩
theorem TagI.same {w0 : World} {cA cB : List Value} {f : Nat → Bool} {t : Nat → Value} {W : World} (h : TagI w0 cA cB f t W) (j : Nat) (v : Value) (h1 : j ≠ 16) (h2 : j ≠ 18) : TagI w0 cA cB (updF f j) (updT t j v) W := by
  refine ⟨h.1, fun e => ?_, fun e => ?_⟩
  · rw [updF_ne f (Ne.symm h1)] at e
    obtain ⟨g, e1, e2⟩ := h.2.1 e
    exact ⟨g, by simpa [updT, Ne.symm h1] using e1, e2⟩
  · rw [updF_ne f (Ne.symm h2)] at e
    obtain ⟨g, e1, e2⟩ := h.2.2 e
    exact ⟨g, by simpa [updT, Ne.symm h2] using e1, e2⟩
theorem TagI.next {w0 : World} {cA cB : List Value} {f : Nat → Bool} {t : Nat → Value} {W W' : World} (h : TagI w0 cA cB f t W) (j : Nat) (v : Value) (h1 : j ≠ 16) (h2 : j ≠ 18) (hb : Below W.heap.size W W') : TagI w0 cA cB (updF f j) (updT t j v) W' := by
  have h' := h.same j v h1 h2
  refine ⟨bt h'.1 hb, fun e => ?_, fun e => ?_⟩
  · obtain ⟨g, e1, e2⟩ := h'.2.1 e
    exact ⟨g, e1, e2.below hb e2.lt⟩
  · obtain ⟨g, e1, e2⟩ := h'.2.2 e
    exact ⟨g, e1, e2.below hb e2.lt⟩
theorem TagI.newA {w0 : World} {cA cB : List Value} {f : Nat → Bool} {t : Nat → Value} {W : World} (h : TagI w0 cA cB f t W) : TagI w0 cA cB (updF f 16) (updT t 16 (.slice (some ⟨W.heap.size, 0, none⟩) 1 1)) (W.alloc (.cells cA.toArray 31)) := by
  refine ⟨h.1.alloc h.1.size _, fun _ => ⟨W.heap.size, by simp [updT], Box.new W 31 cA⟩, fun e => ?_⟩
  rw [updF_ne f (by omega)] at e
  obtain ⟨g, e1, e2⟩ := h.2.2 e
  exact ⟨g, by simpa [updT] using e1, e2.alloc _⟩
theorem TagI.newB {w0 : World} {cA cB : List Value} {f : Nat → Bool} {t : Nat → Value} {W : World} (h : TagI w0 cA cB f t W) : TagI w0 cA cB (updF f 18) (updT t 18 (.slice (some ⟨W.heap.size, 0, none⟩) 1 1)) (W.alloc (.cells cB.toArray 31)) := by
  refine ⟨h.1.alloc h.1.size _, fun e => ?_, fun _ => ⟨W.heap.size, by simp [updT], Box.new W 31 cB⟩⟩
  rw [updF_ne f (by omega)] at e
  obtain ⟨g, e1, e2⟩ := h.2.1 e
  exact ⟨g, by simpa [updT] using e1, e2.alloc _⟩

set_option maxHeartbeats 4000000 in
set_option maxRecDepth 100000 in
theorem law05TokenTags (v : Value) (l : List UInt8) (w : World) (hg : Glo w) (hs : Sl w v (u8s l)) : Calls Try.prog 4 #[v] w fun e w' => e = .returned (.bool true) ∧ Below w.heap.size w w' := by
  have hF := Lib.hid (few05 v l w hs)
  have hz : (M5.bs (fewB l)).size ≤ 1073741824 := by rw [bs_size]; have := fewB_len l; omega
  obtain ⟨s, hse⟩ : ∃ s, Hid (s = M5.bs (fewB l)) := ⟨_, rfl⟩
  rw [← hse.out] at hz hF
  obtain ⟨a, cap, rfl, hlc, hcm⟩ := hs.len8
  clear hs
  obtain ⟨wo, rfl⟩ : ∃ wo : World, wo = w := ⟨_, rfl⟩
  go_enter Try.func4, Try.ntmps4
  go_wp2_with fail
  refine hF.out.mono ?_
  rintro e1 w1 ⟨rfl, hb1⟩
  go_wp2_with fail
  go_loopw [4] (fun u4 wr => ∃ i : Nat, u4 = .int .i64 (i : Int) ∧ i ≤ s.size + 1 ∧ Below wo.heap.size wo wr) (fun u4 _ => s.size + 1 - (intOf u4).toNat)
  case atStart => exact ⟨0, rfl, by omega, hb1⟩
  case round =>
    obtain ⟨i, rfl, hi, hbw⟩ := hrel
    by_cases hlt : i ≤ s.size
    · have hx : (s.extract i s.size).data.toList = s.data.toList.drop i := by rw [dropk_bs, M5.bs_data]
      have hxz : (s.extract i s.size).size = s.size - i := by rw [ByteArray.size_extract]; omega
      have hT := tokTag (s.extract i s.size) wr (hg.below hbw (Nat.le_refl _)) (by omega)
      have hR := fun w => ref05Tag (s.extract i s.size) w (by omega)
      have hS := fun w => tokStarts (s.extract i s.size) w (by omega)
      have hQ := fun w => ref05Starts (s.extract i s.size) w (by omega)
      rw [hx, hxz] at hT hR
      rw [hx] at hS hQ
      generalize (M5.tagR (s.data.toList.drop i)).1 = t0 at *
      generalize s.size - i - (M5.tagR (s.data.toList.drop i)).2.length = n at *
      generalize M5.startsB (s.data.toList.drop i) = st at *
      replace hT := Lib.hid hT
      replace hR := Lib.hid hR
      replace hS := Lib.hid hS
      replace hQ := Lib.hid hQ
      replace hx := Lib.hid hx
      have hle : decide ((i : Int) ≤ (s.size : Int)) = true := decide_eq_true (by omega)
      go_wp2_with fail
      refine hT.out.mono ?_
      rintro e1 w2 ⟨va, rfl, hva, hb2⟩
      obtain ⟨a2, c2, rfl⟩ := own_slice5 hva
      have bt2 := Box.new w2 31 (t0.cells (.slice a2 t0.attrs.length c2))
      have hb2' := (Below.refl w2.heap.size w2).alloc (Nat.le_refl _) (.cells (t0.cells (.slice a2 t0.attrs.length c2)).toArray 31)
      go_wp2_with fail
      refine (hR.out _).mono ?_
      rintro e1 w3 ⟨vb, rfl, hvb, hb3⟩
      obtain ⟨a3, c3, rfl⟩ := own_slice5 hvb
      have bt3 := (bt2.below hb3 bt2.lt).alloc (.cells (t0.cells (.slice a3 t0.attrs.length c3)).toArray 31)
      have bu3 := Box.new w3 31 (t0.cells (.slice a3 t0.attrs.length c3))
      have hb3' := (Below.refl w3.heap.size w3).alloc (Nat.le_refl _) (.cells (t0.cells (.slice a3 t0.attrs.length c3)).toArray 31)
      have hA : Row (fun b => b < (w3.alloc (.cells (t0.cells (.slice a3 t0.attrs.length c3)).toArray 31)).heap.size) (w3.alloc (.cells (t0.cells (.slice a3 t0.attrs.length c3)).toArray 31)) 2 (.slice a2 t0.attrs.length c2) t0.attrs.length (cellsA t0.attrs) :=
        Row.own (own_below (own_below (own_below hva hb2') hb3) hb3') (fun g hg => ((own_below (own_below (own_below hva hb2') hb3) hb3').lt g hg).2)
      have hB : Row (fun b => b < (w3.alloc (.cells (t0.cells (.slice a3 t0.attrs.length c3)).toArray 31)).heap.size) (w3.alloc (.cells (t0.cells (.slice a3 t0.attrs.length c3)).toArray 31)) 2 (.slice a3 t0.attrs.length c3) t0.attrs.length (cellsA t0.attrs) :=
        Row.own (own_below hvb hb3') (fun g hg => ((own_below hvb hb3').lt g hg).2)
      have hbw4 := bt (bt (bt (bt hbw hb2) hb2') hb3) hb3'
      go_upto_region 7 with fail
      change Code.wp _ _ _ _ (w3.alloc (.cells (t0.cells (.slice a3 t0.attrs.length c3)).toArray 31))
      generalize w3.alloc (.cells (t0.cells (.slice a3 t0.attrs.length c3)).toArray 31) = w4 at *
      refine wp_region_known (n := 22) ([some (Value.int IntKind.i64 (n : Int)), some (Value.int IntKind.i64 (n : Int)), some (.bool false), some (.bool false), some (Value.string s), some (Value.int IntKind.i64 (i : Int)), some (.string (s.extract i s.size)), some (.bool st), some (Value.string s), some (Value.int IntKind.i64 (i : Int)), some (.string (s.extract i s.size)), some (.bool st), some (.bool false), some (.bool false), some (.bool false), some (.agg #[.int .i64 t0.kind, .string t0.name, .slice a2 t0.attrs.length c2, .string t0.text]), none, some (.agg #[.int .i64 t0.kind, .string t0.name, .slice a3 t0.attrs.length c3, .string t0.text]), none, some (.bool true), some (.bool false), some (.bool false)] : List (Option Value)) (fun t => ⟨#[Value.slice a l.length cap, undef, u2, Value.string s, Value.int IntKind.i64 (i : Int), Value.pointer (some ⟨w2.heap.size, 0, none⟩), Value.int IntKind.i64 (n : Int), Value.pointer (some ⟨w3.heap.size, 0, none⟩), Value.int IntKind.i64 (n : Int), Value.slice a l.length cap, Value.string s, Value.int IntKind.i64 (i : Int), Value.string s, Value.int IntKind.i64 (s.size : Int), Value.bool true, u15, u16, Value.tuple #[Value.agg #[Value.int IntKind.i64 t0.kind, Value.string t0.name, Value.slice a2 t0.attrs.length c2, Value.string t0.text], Value.int IntKind.i64 (n : Int)], Value.string s, Value.int IntKind.i64 (i : Int), Value.string (s.extract i s.size), Value.tuple #[Value.agg #[Value.int IntKind.i64 t0.kind, Value.string t0.name, Value.slice a2 t0.attrs.length c2, Value.string t0.text], Value.int IntKind.i64 (n : Int)], Value.agg #[Value.int IntKind.i64 t0.kind, Value.string t0.name, Value.slice a2 t0.attrs.length c2, Value.string t0.text], Value.int IntKind.i64 (n : Int), Value.tuple #[Value.agg #[Value.int IntKind.i64 t0.kind, Value.string t0.name, Value.slice a3 t0.attrs.length c3, Value.string t0.text], Value.int IntKind.i64 (n : Int)], Value.string s, Value.int IntKind.i64 (i : Int), Value.string (s.extract i s.size), Value.tuple #[Value.agg #[Value.int IntKind.i64 t0.kind, Value.string t0.name, Value.slice a3 t0.attrs.length c3, Value.string t0.text], Value.int IntKind.i64 (n : Int)], Value.agg #[Value.int IntKind.i64 t0.kind, Value.string t0.name, Value.slice a3 t0.attrs.length c3, Value.string t0.text], Value.int IntKind.i64 (n : Int), t 0, t 1, t 2, t 3, t 4, t 5, t 6, t 7, t 8, t 9, t 10, t 11, t 12, t 13, t 14, t 15, t 16, t 17, t 18, t 19, t 20, t 21, undef], []⟩) (fun f t W => TagI w4 (t0.cells (.slice a2 t0.attrs.length c2)) (t0.cells (.slice a3 t0.attrs.length c3)) f t W) (fun j => match j with | 0 => u31 | 1 => u32 | 2 => u33 | 3 => u34 | 4 => u35 | 5 => u36 | 6 => u37 | 7 => u38 | 8 => u39 | 9 => u40 | 10 => u41 | 11 => u42 | 12 => u43 | 13 => u44 | 14 => u45 | 15 => u46 | 16 => u47 | 17 => u48 | 18 => u49 | 19 => u50 | 20 => u51 | 21 => u52 | _ => undef) (by kernel_rfl) (by rfl) (by rfl) (by kernel_rfl) rfl ?i0 ?step ?fin
      case i0 =>
        exact TagI.start _ _ _ _ (by decide) _
      case step =>
        intro j0 hj0 f t W hfi hwt hk2 hI
        have s0 := (bt3.below hI.1 bt3.lt).cell (i := 0) rfl
        have s1 := (bt3.below hI.1 bt3.lt).cell (i := 1) rfl
        have s2 := (bt3.below hI.1 bt3.lt).cell (i := 2) rfl
        have s3 := (bt3.below hI.1 bt3.lt).cell (i := 3) rfl
        have q0 := (bu3.below hI.1 bu3.lt).cell (i := 0) rfl
        have q1 := (bu3.below hI.1 bu3.lt).cell (i := 1) rfl
        have q2 := (bu3.below hI.1 bu3.lt).cell (i := 2) rfl
        have q3 := (bu3.below hI.1 bu3.lt).cell (i := 3) rfl
        obtain rfl | rfl | rfl | rfl | rfl | rfl | rfl | rfl | rfl | rfl | rfl | rfl | rfl | rfl | rfl | rfl | rfl | rfl | rfl | rfl | rfl | rfl : j0 = 0 ∨ j0 = 1 ∨ j0 = 2 ∨ j0 = 3 ∨ j0 = 4 ∨ j0 = 5 ∨ j0 = 6 ∨ j0 = 7 ∨ j0 = 8 ∨ j0 = 9 ∨ j0 = 10 ∨ j0 = 11 ∨ j0 = 12 ∨ j0 = 13 ∨ j0 = 14 ∨ j0 = 15 ∨ j0 = 16 ∨ j0 = 17 ∨ j0 = 18 ∨ j0 = 19 ∨ j0 = 20 ∨ j0 = 21 := by omega
        · -- operation 0
          replace hI := Lib.hid hI
          replace hk2 := Lib.hid hk2
          clear hwt
          refine wpOp_step rfl (fun K hK => ?_)
          go_simp
          exact hK _ _ ⟨_, by simp [updT], hk2.out.at_ rfl, hI.out.same _ _ (by decide) (by decide)⟩
        · -- operation 1
          replace hI := Lib.hid hI
          replace hk2 := Lib.hid hk2
          clear hwt
          refine wpOp_step rfl (fun K hK => ?_)
          go_simp
          exact hK _ _ ⟨_, by simp [updT], hk2.out.at_ rfl, hI.out.same _ _ (by decide) (by decide)⟩
        · -- operation 2
          have e0 : t 0 = Value.int IntKind.i64 (n : Int) := hk2 0 _ (hwt 0 (by kernel_rfl)) rfl
          have e1 : t 1 = Value.int IntKind.i64 (n : Int) := hk2 1 _ (hwt 1 (by kernel_rfl)) rfl
          replace hI := Lib.hid hI
          replace hk2 := Lib.hid hk2
          clear hwt
          refine wpOp_step rfl (fun K hK => ?_)
          go_simp
          exact hK _ _ ⟨_, by simp [updT, e0, e1], hk2.out.at_ rfl, hI.out.same _ _ (by decide) (by decide)⟩
        · -- operation 3
          have e2 : t 2 = .bool false := hk2 2 _ (hwt 2 (by kernel_rfl)) rfl
          replace hI := Lib.hid hI
          replace hk2 := Lib.hid hk2
          clear hwt
          refine wpOp_step rfl (fun K hK => ?_)
          go_simp
          exact hK _ _ ⟨_, by simp [updT, e2], hk2.out.at_ rfl, hI.out.same _ _ (by decide) (by decide)⟩
        · -- operation 4
          have e3 : t 3 = .bool false := hk2 3 _ (hwt 3 (by kernel_rfl)) rfl
          replace hI := Lib.hid hI
          replace hk2 := Lib.hid hk2
          clear hwt
          refine wpOp_step rfl (fun K hK => ?_)
          go_simp
          exact hK _ _ ⟨_, by simp [updT, e3], hk2.out.at_ rfl, hI.out.same _ _ (by decide) (by decide)⟩
        · -- operation 5
          have e3 : t 3 = .bool false := hk2 3 _ (hwt 3 (by kernel_rfl)) rfl
          replace hI := Lib.hid hI
          replace hk2 := Lib.hid hk2
          clear hwt
          refine wpOp_step rfl (fun K hK => ?_)
          go_simp
          exact hK _ _ ⟨_, by simp [updT, e3], hk2.out.at_ rfl, hI.out.same _ _ (by decide) (by decide)⟩
        · -- operation 6
          have e3 : t 3 = .bool false := hk2 3 _ (hwt 3 (by kernel_rfl)) rfl
          have e4 : t 4 = Value.string s := hk2 4 _ (hwt 4 (by kernel_rfl)) rfl
          have e5 : t 5 = Value.int IntKind.i64 (i : Int) := hk2 5 _ (hwt 5 (by kernel_rfl)) rfl
          replace hI := Lib.hid hI
          replace hk2 := Lib.hid hk2
          clear hwt
          refine wpOp_step rfl (fun K hK => ?_)
          go_simp
          exact hK _ _ ⟨_, by simp [updT, e3, e4, e5], hk2.out.at_ rfl, hI.out.same _ _ (by decide) (by decide)⟩
        · -- operation 7
          have e3 : t 3 = .bool false := hk2 3 _ (hwt 3 (by kernel_rfl)) rfl
          have e6 : t 6 = .string (s.extract i s.size) := hk2 6 _ (hwt 6 (by kernel_rfl)) rfl
          have hC := Lib.hid (hS.out W)
          replace hk2 := Lib.hid hk2
          replace hI := Lib.hid hI
          clear hwt
          refine wpOp_step rfl (fun K hK => ?_)
          go_simp
          refine hC.out.mono ?_
          rintro e w5 ⟨rfl, rfl⟩
          exact hK _ _ ⟨_, by simp [updT, e3, e6], hk2.out.at_ rfl, hI.out.same _ _ (by decide) (by decide)⟩
        · -- operation 8
          have e3 : t 3 = .bool false := hk2 3 _ (hwt 3 (by kernel_rfl)) rfl
          replace hI := Lib.hid hI
          replace hk2 := Lib.hid hk2
          clear hwt
          refine wpOp_step rfl (fun K hK => ?_)
          go_simp
          exact hK _ _ ⟨_, by simp [updT, e3], hk2.out.at_ rfl, hI.out.same _ _ (by decide) (by decide)⟩
        · -- operation 9
          have e3 : t 3 = .bool false := hk2 3 _ (hwt 3 (by kernel_rfl)) rfl
          replace hI := Lib.hid hI
          replace hk2 := Lib.hid hk2
          clear hwt
          refine wpOp_step rfl (fun K hK => ?_)
          go_simp
          exact hK _ _ ⟨_, by simp [updT, e3], hk2.out.at_ rfl, hI.out.same _ _ (by decide) (by decide)⟩
        · -- operation 10
          have e3 : t 3 = .bool false := hk2 3 _ (hwt 3 (by kernel_rfl)) rfl
          have e8 : t 8 = Value.string s := hk2 8 _ (hwt 8 (by kernel_rfl)) rfl
          have e9 : t 9 = Value.int IntKind.i64 (i : Int) := hk2 9 _ (hwt 9 (by kernel_rfl)) rfl
          replace hI := Lib.hid hI
          replace hk2 := Lib.hid hk2
          clear hwt
          refine wpOp_step rfl (fun K hK => ?_)
          go_simp
          exact hK _ _ ⟨_, by simp [updT, e3, e8, e9], hk2.out.at_ rfl, hI.out.same _ _ (by decide) (by decide)⟩
        · -- operation 11
          have e3 : t 3 = .bool false := hk2 3 _ (hwt 3 (by kernel_rfl)) rfl
          have e10 : t 10 = .string (s.extract i s.size) := hk2 10 _ (hwt 10 (by kernel_rfl)) rfl
          have hC := Lib.hid (hQ.out W)
          replace hk2 := Lib.hid hk2
          replace hI := Lib.hid hI
          clear hwt
          refine wpOp_step rfl (fun K hK => ?_)
          go_simp
          refine hC.out.mono ?_
          rintro e w5 ⟨rfl, rfl⟩
          exact hK _ _ ⟨_, by simp [updT, e3, e10], hk2.out.at_ rfl, hI.out.same _ _ (by decide) (by decide)⟩
        · -- operation 12
          have e3 : t 3 = .bool false := hk2 3 _ (hwt 3 (by kernel_rfl)) rfl
          have e7 : t 7 = .bool st := hk2 7 _ (hwt 7 (by kernel_rfl)) rfl
          have e11 : t 11 = .bool st := hk2 11 _ (hwt 11 (by kernel_rfl)) rfl
          replace hI := Lib.hid hI
          replace hk2 := Lib.hid hk2
          clear hwt
          refine wpOp_step rfl (fun K hK => ?_)
          go_simp
          exact hK _ _ ⟨_, by simp [updT, e3, e7, e11], hk2.out.at_ rfl, hI.out.same _ _ (by decide) (by decide)⟩
        · -- operation 13
          have e3 : t 3 = .bool false := hk2 3 _ (hwt 3 (by kernel_rfl)) rfl
          have e12 : t 12 = .bool false := hk2 12 _ (hwt 12 (by kernel_rfl)) rfl
          replace hI := Lib.hid hI
          replace hk2 := Lib.hid hk2
          clear hwt
          refine wpOp_step rfl (fun K hK => ?_)
          go_simp
          exact hK _ _ ⟨_, by simp [updT, e3, e12], hk2.out.at_ rfl, hI.out.same _ _ (by decide) (by decide)⟩
        · -- operation 14
          have e13 : t 13 = .bool false := hk2 13 _ (hwt 13 (by kernel_rfl)) rfl
          replace hI := Lib.hid hI
          replace hk2 := Lib.hid hk2
          clear hwt
          refine wpOp_step rfl (fun K hK => ?_)
          go_simp
          exact hK _ _ ⟨_, by simp [updT, e13], hk2.out.at_ rfl, hI.out.same _ _ (by decide) (by decide)⟩
        · -- operation 15
          have e14 : t 14 = .bool false := hk2 14 _ (hwt 14 (by kernel_rfl)) rfl
          replace hI := Lib.hid hI
          replace hk2 := Lib.hid hk2
          clear hwt
          refine wpOp_step rfl (fun K hK => ?_)
          go_simp
          exact hK _ _ ⟨_, by simp [updT, e14], hk2.out.at_ rfl, hI.out.same _ _ (by decide) (by decide)⟩
        · -- operation 16
          have e14 : t 14 = .bool false := hk2 14 _ (hwt 14 (by kernel_rfl)) rfl
          have e15 : t 15 = .agg #[.int .i64 t0.kind, .string t0.name, .slice a2 t0.attrs.length c2, .string t0.text] := hk2 15 _ (hwt 15 (by kernel_rfl)) rfl
          replace hk2 := Lib.hid hk2
          replace hI := Lib.hid hI
          clear hwt
          refine wpOp_step rfl (fun K hK => ?_)
          go_simp
          exact hK _ _ ⟨_, by simp [updT, e14, e15], hk2.out.free rfl, hI.out.newA⟩
        · -- operation 17
          have e14 : t 14 = .bool false := hk2 14 _ (hwt 14 (by kernel_rfl)) rfl
          replace hI := Lib.hid hI
          replace hk2 := Lib.hid hk2
          clear hwt
          refine wpOp_step rfl (fun K hK => ?_)
          go_simp
          exact hK _ _ ⟨_, by simp [updT, e14], hk2.out.at_ rfl, hI.out.same _ _ (by decide) (by decide)⟩
        · -- operation 18
          have e14 : t 14 = .bool false := hk2 14 _ (hwt 14 (by kernel_rfl)) rfl
          have e17 : t 17 = .agg #[.int .i64 t0.kind, .string t0.name, .slice a3 t0.attrs.length c3, .string t0.text] := hk2 17 _ (hwt 17 (by kernel_rfl)) rfl
          replace hk2 := Lib.hid hk2
          replace hI := Lib.hid hI
          clear hwt
          refine wpOp_step rfl (fun K hK => ?_)
          go_simp
          exact hK _ _ ⟨_, by simp [updT, e14, e17], hk2.out.free rfl, hI.out.newB⟩
        · -- operation 19
          have e14 : t 14 = .bool false := hk2 14 _ (hwt 14 (by kernel_rfl)) rfl
          obtain ⟨gA, eA, hA1⟩ := hI.2.1 (hwt 16 (by kernel_rfl))
          obtain ⟨gB, eB, hB1⟩ := hI.2.2 (hwt 18 (by kernel_rfl))
          have hzW := hI.1.size
          have hSm := Lib.hid (same_one t0 _ _ gA gB W hA1 hB1 ((hA.keep (fun b hb => hI.1.block b hb)).mono (fun b hb => Nat.lt_of_lt_of_le hb hzW)) ((hB.keep (fun b hb => hI.1.block b hb)).mono (fun b hb => Nat.lt_of_lt_of_le hb hzW)))
          replace hk2 := Lib.hid hk2
          replace hI := Lib.hid hI
          clear hwt
          refine wpOp_step rfl (fun K hK => ?_)
          go_simp
          refine hSm.out.mono ?_
          rintro e w5 ⟨rfl, hb5⟩
          exact hK _ _ ⟨_, by simp [updT, eA, eB, e14], hk2.out.at_ rfl, hI.out.next _ _ (by decide) (by decide) hb5⟩
        · -- operation 20
          have e14 : t 14 = .bool false := hk2 14 _ (hwt 14 (by kernel_rfl)) rfl
          have e19 : t 19 = .bool true := hk2 19 _ (hwt 19 (by kernel_rfl)) rfl
          replace hI := Lib.hid hI
          replace hk2 := Lib.hid hk2
          clear hwt
          refine wpOp_step rfl (fun K hK => ?_)
          go_simp
          exact hK _ _ ⟨_, by simp [updT, e14, e19], hk2.out.at_ rfl, hI.out.same _ _ (by decide) (by decide)⟩
        · -- operation 21
          have e14 : t 14 = .bool false := hk2 14 _ (hwt 14 (by kernel_rfl)) rfl
          have e20 : t 20 = .bool false := hk2 20 _ (hwt 20 (by kernel_rfl)) rfl
          replace hI := Lib.hid hI
          replace hk2 := Lib.hid hk2
          clear hwt
          refine wpOp_step rfl (fun K hK => ?_)
          go_simp
          exact hK _ _ ⟨_, by simp [updT, e14, e20], hk2.out.at_ rfl, hI.out.same _ _ (by decide) (by decide)⟩
      case fin =>
        intro f t W hall hk2 hI
        have e52 := hk2 21 _ (hall 21 (by omega)) rfl
        have hb9 := Lib.hid (bt hbw4 hI.1)
        clear hk2 hall hI
        dsimp only
        rw [e52]
        go_wp2_with fail
        go_roundw
        case rel => exact ⟨i + 1, by go_num, by omega, hb9.out⟩
        case measure => simp [intOf]; omega
    · have hle : decide ((i : Int) ≤ (s.size : Int)) = false := decide_eq_false (by omega)
      go_wp2_with fail
      refine (lives05 _ (hg.below hbw (Nat.le_refl _))).mono ?_
      rintro e1 w6 ⟨rfl, hb6⟩
      go_wp2_with fail
      go_ret
      exact ⟨rfl, bt hbw hb6⟩
end Go.Proofs.Ytlknmnldblodbaa
