/- A text over joined ones: Math5h. -/
import Derived.Test.YtlknmnldblodbaaH1
import Derived.Test.YtlknmnldblodbaaH2
import Derived.Test.YtlknmnldblodbaaH3
import Derived.Test.YtlknmnldblodbaaH4
import Derived.Test.YtlknmnldblodbaaH5
import Derived.Test.YtlknmnldblodbaaH6
import Derived.Test.YtlknmnldblodbaaHMath5g
import Derived.Test.YtlknmnldblodbaaHWr2
import Derived.Test.YtlknmnldblodbaaHRef04
import Derived.Test.YtlknmnldblodbaaHLaw05c
/- Tokens by definitions: one beginning tag, spelt in two ways. -/
namespace Go.Proofs.Ytlknmnldblodbaa.M5

theorem quoted_own (q : UInt8) (v t : List UInt8) (h : ∀ x ∈ v, x ≠ q) : quoted q (v ++ q :: t) = (v, t) := by
  unfold quoted
  induction v with
  | nil => simp
  | cons c r ih =>
    have hc : (c != q) = true := bne_iff_ne.2 (h c (by simp))
    have := ih (fun x hx => h x (by simp [hx]))
    simp only [Prod.mk.injEq] at this
    rw [List.cons_append, List.takeWhile_cons, List.dropWhile_cons, hc, if_pos rfl, if_pos rfl, this.1, this.2]
def blanksT (v : List UInt8) : Tok := ⟨1, ⟨#[97]⟩, [⟨⟨#[120]⟩, bs (M2.decode v)⟩], ⟨#[]⟩⟩
theorem blanks_end (l r : List UInt8) (v : List UInt8) (ha : attsR ((l.drop 1).dropWhile nameB) [] = some ([⟨⟨#[120]⟩, bs (M2.decode v)⟩], [])) (hn : bs (M1.fold ((l.drop 1).takeWhile nameB)) = ⟨#[97]⟩) (hs : startsB l = true) (hl : ∃ d, l = 60 :: d :: r ∧ letterB d = true) : tokens l = [blanksT v] := by
  obtain ⟨d, rfl, hd⟩ := hl
  have hb : beginR (60 :: d :: r) = (blanksT v, []) := by
    rw [begin_eq, ha]
    show ((⟨1, bs (M1.fold (((60 :: d :: r).drop 1).takeWhile nameB)), [⟨⟨#[120]⟩, bs (M2.decode v)⟩], ⟨#[]⟩⟩ : Tok), ([] : List UInt8)) = _
    rw [hn]
    rfl
  have ht : tagR (60 :: d :: r) = (blanksT v, []) := by
    unfold tagR
    rw [if_pos hs]
    show (if letterB d then _ else _ : Tok × List UInt8) = _
    rw [if_pos hd, hb]
  rw [tokens_eq, toks_tag _ hs, ht]
  show (if (1 : Int) ≠ 0 then [blanksT v] else []) ++ ((rawT (blanksT v) []).1 ++ toksR [] (rawT (blanksT v) []).2) = _
  rw [rawT_not (blanksT v) [] (fun h => absurd h.2 (by show ¬ M3.rawB [97] = true; decide)), toksR_nil, if_pos (by decide)]
  rfl
theorem one_attr (c : UInt8) (r rest : List UInt8) (w : List UInt8) (ho : overB c = false) (h62 : c ≠ 62) (he : attC (c :: r) = (⟨⟨#[120]⟩, bs (M2.decode w)⟩, rest)) (hr : rest.dropWhile overB = [62]) : attsR (c :: r) [] = some ([⟨⟨#[120]⟩, bs (M2.decode w)⟩], []) := by
  rw [atts_one c r [] ho h62, he]
  show attsR rest _ = _
  rw [atts_over, hr, attsR_cons, if_pos rfl]
  rfl
theorem blanks_one (v : List UInt8) (h : ∀ x ∈ v, x ≠ 34) : tokens ([60, 97, 32, 120, 61, 34] ++ v ++ [34, 62]) = [blanksT v] := by
  have e : [60, 97, 32, 120, 61, 34] ++ v ++ [34, 62] = 60 :: 97 :: 32 :: 120 :: 61 :: 34 :: (v ++ 34 :: [62]) := by simp
  rw [e]
  refine blanks_end _ _ v ?_ rfl rfl ⟨97, rfl, rfl⟩
  show attsR (32 :: 120 :: 61 :: 34 :: (v ++ 34 :: [62])) [] = _
  rw [atts_over]
  show attsR (120 :: 61 :: 34 :: (v ++ 34 :: [62])) [] = _
  refine one_attr _ _ [62] v rfl (by decide) ?_ rfl
  rw [attC_61 (120 :: 61 :: 34 :: (v ++ 34 :: [62])) (34 :: (v ++ 34 :: [62])) rfl]
  show ((⟨bs (M1.fold [120]), bs (M2.decode (valC (34 :: (v ++ 34 :: [62]))).1)⟩ : Att), (valC (34 :: (v ++ 34 :: [62]))).2) = _
  rw [valC, if_pos (Or.inl rfl), quoted_own 34 v [62] h]
  rfl
theorem blanks_two (v : List UInt8) (h : ∀ x ∈ v, x ≠ 39) : tokens ([60, 65, 32, 10, 47, 32, 61, 32, 88, 9, 61, 32, 39] ++ v ++ [39, 32, 47, 32, 62]) = [blanksT v] := by
  have e : [60, 65, 32, 10, 47, 32, 61, 32, 88, 9, 61, 32, 39] ++ v ++ [39, 32, 47, 32, 62] = 60 :: 65 :: 32 :: 10 :: 47 :: 32 :: 61 :: 32 :: 88 :: 9 :: 61 :: 32 :: 39 :: (v ++ 39 :: [32, 47, 32, 62]) := by simp
  rw [e]
  refine blanks_end _ _ v ?_ rfl rfl ⟨65, rfl, rfl⟩
  show attsR (32 :: 10 :: 47 :: 32 :: 61 :: 32 :: 88 :: 9 :: 61 :: 32 :: 39 :: (v ++ 39 :: [32, 47, 32, 62])) [] = _
  rw [atts_over]
  show attsR (88 :: 9 :: 61 :: 32 :: 39 :: (v ++ 39 :: [32, 47, 32, 62])) [] = _
  refine one_attr _ _ [32, 47, 32, 62] v rfl (by decide) ?_ rfl
  rw [attC_61 (88 :: 9 :: 61 :: 32 :: 39 :: (v ++ 39 :: [32, 47, 32, 62])) (32 :: 39 :: (v ++ 39 :: [32, 47, 32, 62])) rfl]
  show ((⟨bs (M1.fold [88]), bs (M2.decode (valC (39 :: (v ++ 39 :: [32, 47, 32, 62]))).1)⟩ : Att), (valC (39 :: (v ++ 39 :: [32, 47, 32, 62]))).2) = _
  rw [valC, if_pos (Or.inr rfl), quoted_own 39 v _ h]
  rfl
end Go.Proofs.Ytlknmnldblodbaa.M5

