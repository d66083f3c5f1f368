/- Package refs' functions: what each call gives, for any text. -/
import Derived.Test.YtjelmpajphajfaaStrs
import Derived.Test.YtjelmpajphajfaaKit2
import Derived.Test.YtjelmpajphajfaaMapKit
import Derived.Test.YtjelmpajphajfaaMath2
import Derived.BigCall
import Derived.Deep.QuietTactic
import Derived.BigQuiet
import Derived.IntWalk
namespace Go.Proofs.Ytjelmpajphajfaa
open Go.RowKit Go.Maps Go.WideShapes

theorem lawS : Keyed Try.prog 9 := string_keyed Try.underlying9
theorem zero32 (w : World) : (zeroValue 21).run Try.prog w = .ok (.int .i32 0) w := by kernel_rfl

/-! ### The map of names -/
/-- The names' map as it reads. -/
def namesL : List (Lit × DataW Unit) := M2.tbl.map fun p => (.string p.1, .lit (.int .i32 (p.2 : Int)))
def namesD : DataW Unit := rowD namesL (.map [])
theorem namesL_keys : ∀ p ∈ namesL, WideAt.IsKeyLit p.1 := by
  intro p hp
  obtain ⟨q, _, rfl⟩ := List.mem_map.1 hp
  trivial
theorem namesL_apart : namesL.Pairwise (fun p q => p.1 ≠ q.1) := by
  rw [namesL, List.pairwise_map]
  exact M2.tbl_apart.imp (fun h e => h (by simpa using e))
theorem names_has (s : List UInt8) : Maps.has namesD (.string s) = (M2.nm s).isSome := by
  unfold namesD
  rw [rowD_has _ _ _ isMap_empty namesL_keys, has_eq, List.any_nil, Bool.or_false]
  rw [Bool.eq_iff_iff, List.any_eq_true]
  constructor
  · rintro ⟨p, hp, h⟩
    obtain ⟨q, hq, rfl⟩ := List.mem_map.1 hp
    have h := WideAt.sameKey_eq h
    simp only [Lit.string.injEq] at h
    rw [← h, M2.nm_of_mem hq]
    rfl
  · intro h
    obtain ⟨n, hn⟩ := Option.isSome_iff_exists.1 h
    exact ⟨_, List.mem_map.2 ⟨_, M2.nm_mem hn, rfl⟩, WideAt.sameKey_self (by trivial)⟩
theorem names_at (s : List UInt8) : namesD.atKey (.string s) (.lit (.int .i32 0)) = .lit (.int .i32 (((M2.nm s).getD 0 : Nat) : Int)) := by
  cases h : M2.nm s with
  | none =>
    refine atKey_of_not_has ?_ _
    rw [names_has, h]
    rfl
  | some n => exact rowD_at namesL _ _ (.string s, .lit (.int .i32 (n : Int))) isMap_empty namesL_keys namesL_apart (List.mem_map.2 ⟨_, M2.nm_mem h, rfl⟩)
abbrev Names (w : World) (b : Nat) : Prop := w.ownsMap Try.prog 9 (plainElem Try.prog 21) b 15 namesD

/-- 'next' on a text, by lists. -/
theorem nextDec {P : Program} (w : World) (k : Nat) (s : ByteArray) (pos : Nat) (hk : w.heap[k]? = some (.stringIter s pos)) (h : pos < s.size) : ∀ ty,
    (Instr.next (.pointer (some ⟨k, 0, none⟩)) true ty).run P w =
      .ok (.tuple #[.bool true, .int .i64 pos, .int .i32 (M1.dec (s.data.toList.drop pos)).1]) (w.iterAt k s (pos + (M1.dec (s.data.toList.drop pos)).2)) := fun ty => by
  rw [Lib.run_next_any_at w k s pos ty hk h, M1.decode_eq]

/-! ### References -/
/-- What a call answers of a reference. -/
def ans (o : Option (Int × Nat)) : Value := .tuple #[.int .i32 ((o.map (·.1)).getD 0), .int .i64 (((o.map (·.2)).getD 0 : Nat) : Int)]
theorem ans_mk (o : Option (Int × Nat)) : ∃ x y, ans o = .tuple #[.int .i32 x, .int .i64 y] := ⟨_, _, rfl⟩
theorem ans_none : ans none = .tuple #[.int .i32 0, .int .i64 0] := rfl
theorem ans_some (r : Int) (n : Nat) : ans (some (r, n)) = .tuple #[.int .i32 r, .int .i64 (n : Int)] := rfl

theorem hp_of {s : ByteArray} (p : List UInt8) (q : Bool) (h : decide (s.data.toList.take p.length = p) = q) : Lib.hasPrefix s.data.toList p = q := by
  rw [← h, Bool.eq_iff_iff, decide_eq_true_iff, Lib.hasPrefix, List.isPrefixOf_iff_prefix, List.prefix_iff_eq_take]
  exact eq_comm


end Go.Proofs.Ytjelmpajphajfaa
