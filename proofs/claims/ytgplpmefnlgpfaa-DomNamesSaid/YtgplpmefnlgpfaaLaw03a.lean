/- Layer 3: names. -/
import Derived.Test.YtgplpmefnlgpfaaLives3
namespace Go.Proofs.Ytgplpmefnlgpfaa
open Go.RowKit

set_option maxHeartbeats 2000000 in
set_option maxRecDepth 100000 in
theorem law03DomNames (s : ByteArray) (w : World) (hs : s.size ≤ 9223372036854775807) :
    Calls Try.prog 3 #[.string s] w fun e w' => e = .returned (.bool true) ∧ Below w.heap.size w w' := by
  have hx : (s.extract 0 30).size ≤ 30 := by rw [ByteArray.size_extract]; omega
  have h1 := Lib.hid (fun (t : ByteArray) (h : t.size ≤ 30) W => domNamed t W (by omega))
  have h2 := Lib.hid (fun (t : ByteArray) (h : t.size ≤ 30) W => ref03Named t W (by omega))
  have h3 := Lib.hid (fun (t : ByteArray) (h : t.size ≤ 30) W => domAttributed t W (by omega))
  have h4 := Lib.hid (fun (t : ByteArray) (h : t.size ≤ 30) W => ref03Attributed t W (by omega))
  by_cases hc : 30 < s.size
  all_goals
    go_enter Try.func3, Try.ntmps3
    go_wp2_with (fail)
    refine (h1.out _ (by omega) _).mono ?_
    rintro e w1 ⟨rfl, hb1⟩
    go_wp2_with (fail)
    refine (h2.out _ (by omega) _).mono ?_
    rintro e w1' ⟨rfl, rfl⟩
    go_wp2_with (fail)
    refine (h3.out _ (by omega) _).mono ?_
    rintro e w2 ⟨rfl, hb2⟩
    go_wp2_with (fail)
    refine (h4.out _ (by omega) _).mono ?_
    rintro e w3 ⟨rfl, hb3⟩
    go_wp2_with (fail)
    refine (domVoid _ _).mono ?_
    rintro e w4 ⟨rfl, hw4⟩
    rw [hw4]
    clear hw4 w4
    go_wp2_with (fail)
    refine (ref03Void _ _).mono ?_
    rintro e w4 ⟨rfl, hw4⟩
    rw [hw4]
    clear hw4 w4
    go_wp2_with (fail)
    refine (domRaw _ _).mono ?_
    rintro e w4 ⟨rfl, hw4⟩
    rw [hw4]
    clear hw4 w4
    go_wp2_with (fail)
    refine (ref03Raw _ _).mono ?_
    rintro e w4 ⟨rfl, hw4⟩
    rw [hw4]
    clear hw4 w4
    go_wp2_with (fail)
    refine (lives03 _).mono ?_
    rintro e w5 ⟨rfl, hb5⟩
    go_wp2
    go_ret
    exact ⟨rfl, bt (bt (bt hb1 hb2) hb3) hb5⟩
end Go.Proofs.Ytgplpmefnlgpfaa
