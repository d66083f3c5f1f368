/- Texts joined: AnyInv, Region. -/
import Derived.OrdersIn
import Derived.StillTail
import Derived.RegionTactic
namespace Go.Proofs.YteefodibpjgicaaGreat
def updF (f : Nat → Bool) (i : Nat) : Nat → Bool:=fun j => if j = i then true else f j
@[simp] theorem updF_same (f : Nat → Bool) (i : Nat) : updF f i i = true:=by simp [updF]
theorem updF_ne (f : Nat → Bool) {i j : Nat} (h : j ≠ i) : updF f i j = f j:=by simp [updF,h]
def ordB (md : Region.Mode) (ops : Array Oper) : Bool :=
  (List.range ops.size).all fun i => match ops[i]? with | some o => o.after.all fun e => !Region.binds md e || decide (e.on < i) | none => true
theorem ordB_spec {md : Region.Mode} {ops : Array Oper} (h : ordB md ops = true) {i : Nat} {o : Oper} (hi : ops[i]? = some o) {e : Edge} (he : e ∈ o.after) (hb : Region.binds md e = true) : e.on < i:=by
  have hlt:=(Array.getElem?_eq_some_iff.1 hi).1
  unfold ordB at h
  rw [List.all_eq_true] at h
  have:=h i (List.mem_range.2 hlt)
  rw [hi] at this
  simp only [Array.all_eq_true_iff_forall_mem,Bool.or_eq_true,Bool.not_eq_true',decide_eq_true_eq] at this
  rcases this e he with h | h
  · rw [hb] at h; cases h
  · exact h
def flags (listed : Array Bool) : Nat → Bool:=fun i => listed.getD i true
theorem flags_set (listed : Array Bool) (i : Nat) : flags (listed.setIfInBounds i true) = updF (flags listed) i:=by
  funext j
  unfold flags updF
  by_cases h : j = i
  · subst h
    rcases Nat.lt_or_ge j listed.size with h | h
    · simp [h]
    · simp
  · rw [if_neg h,getD_set_ne true (Ne.symm h)]
theorem flags_false {listed : Array Bool} {i : Nat} (h : listed.getD i false = true) : flags listed i = true:=by
  unfold flags
  rcases Nat.lt_or_ge i listed.size with h' | h'
  · simp [h'] at h ⊢; exact h
  · simp [Array.getElem?_eq_none h'] at h
theorem false_flags {listed : Array Bool} {i : Nat} (hi : i < listed.size) (h : flags listed i = true) : listed.getD i false = true:=by
  unfold flags at h
  simp [hi] at h ⊢; exact h
theorem all_of_ready_nil {md : Region.Mode} {ops : Array Oper} (hord : ordB md ops = true) {listed : Array Bool} (hs : listed.size = ops.size) (hr : Region.ready md ops listed = []) :
    ∀ i,i < ops.size → flags listed i = true:=by
  intro i
  induction i using Nat.strongRecOn with
  | ind i ih =>
    intro hi
    cases hf : flags listed i with
    | true => rfl
    | false =>
      have : i ∈ Region.ready md ops listed:=mem_ready.2 ⟨hf,ops[i],Array.getElem?_eq_getElem hi,fun e he hb => by
        have hlt:=ordB_spec hord (Array.getElem?_eq_getElem hi) he hb
        exact false_flags (by rw [hs]; exact Nat.lt_trans hlt hi) (ih e.on hlt (Nat.lt_trans hlt hi))⟩
      rw [hr] at this; cases this
def leftOf (listed : Array Bool) : Nat:=listed.toList.countP (fun b => !b)
theorem leftOf_set {listed : Array Bool} {i : Nat} (h : flags listed i = false) : leftOf (listed.setIfInBounds i true) + 1 = leftOf listed:=by
  have hi : i < listed.size:=by
    rcases Nat.lt_or_ge i listed.size with h' | h'
    · exact h'
    · simp [flags,Array.getElem?_eq_none h'] at h
  have hv : listed.toList[i]'(by simpa using hi) = false:=by simpa [flags,hi] using h
  unfold leftOf
  rw [Array.toList_setIfInBounds]
  have h2 : i < listed.toList.length:=by simpa using hi
  rw [List.countP_set h2,hv]
  have hp : 0 < listed.toList.countP (fun b => !b):=List.countP_pos_iff.2 ⟨false,by rw [← hv]; exact List.getElem_mem h2,rfl⟩
  simp only [Bool.not_true,Bool.not_false,if_true,Bool.false_eq_true,if_false]
  omega
theorem wpAnyIn_inv {F : Fence} {n : Nat} {P : Program} {md : Region.Mode} {ops : Array Oper} {Q : Exit → Act → World → Prop} (Inv : (Nat → Bool) → Act → World → Prop) (hord : ordB md ops = true)
    (hstep : ∀ i,i < ops.size → ∀ (f : Nat → Bool) (a : Act) (w : World),f i = false → (∀ j,Region.waitsFor md ops i j = true → f j = true) → Inv f a w → wpOpIn F n P ops Q i (Inv (updF f i)) a w)
    (hdone : ∀ (f : Nat → Bool) (a : Act) (w : World),(∀ i,i < ops.size → f i = true) → Inv f a w → Q .normal a w) :
    ∀ (fuel : Nat) (listed : Array Bool) (a : Act) (w : World),listed.size = ops.size → leftOf listed ≤ fuel → Inv (flags listed) a w → wpAnyIn F n P md ops Q fuel listed a w:=by
  intro fuel
  induction fuel with
  | zero =>
    intro listed a w hs hl h
    have hr : Region.ready md ops listed = []:=by
      rw [List.eq_nil_iff_forall_not_mem]
      intro i hi
      have:=leftOf_set (mem_ready.1 hi).1
      omega
    exact ⟨hr,hdone _ _ _ (all_of_ready_nil hord hs hr) h⟩
  | succ fuel ih =>
    intro listed a w hs hl h
    refine ⟨fun hr => hdone _ _ _ (all_of_ready_nil hord hs hr) h,fun i hi => ?_⟩
    obtain ⟨h0,o,ho,hall⟩:=mem_ready.1 hi
    have hlt:=(Array.getElem?_eq_some_iff.1 ho).1
    refine wpOpIn_mono (fun a' w' h' => ih (listed.setIfInBounds i true) a' w' (by simpa using hs) (by have:=leftOf_set h0; omega) ?_) (hstep i hlt (flags listed) a w h0 (fun j hj => ?_) h)
    · rw [flags_set]; exact h'
    · obtain ⟨oj,hoj,e,he,hb,rfl⟩:=Region.waitsFor_spec hj
      rw [ho] at hoj; cases hoj
      exact flags_false (hall e he hb)
theorem wpAny_inv {P : Program} {md : Region.Mode} {ops : Array Oper} {Q : Exit → Act → World → Prop} (Inv : (Nat → Bool) → Act → World → Prop) (hord : ordB md ops = true)
    (hstep : ∀ i,i < ops.size → ∀ (f : Nat → Bool) (a : Act) (w : World),f i = false → (∀ j,Region.waitsFor md ops i j = true → f j = true) → Inv f a w → wpOp P ops Q i (Inv (updF f i)) a w)
    (hdone : ∀ (f : Nat → Bool) (a : Act) (w : World),(∀ i,i < ops.size → f i = true) → Inv f a w → Q .normal a w) :
    ∀ (fuel : Nat) (listed : Array Bool) (a : Act) (w : World),listed.size = ops.size → leftOf listed ≤ fuel → Inv (flags listed) a w → wpAny P md ops Q fuel listed a w:=by
  intro fuel
  induction fuel with
  | zero =>
    intro listed a w hs hl h
    have hr : Region.ready md ops listed = []:=by
      rw [List.eq_nil_iff_forall_not_mem]
      intro i hi
      have:=leftOf_set (mem_ready.1 hi).1
      omega
    exact ⟨hr,hdone _ _ _ (all_of_ready_nil hord hs hr) h⟩
  | succ fuel ih =>
    intro listed a w hs hl h
    refine ⟨fun hr => hdone _ _ _ (all_of_ready_nil hord hs hr) h,fun i hi => ?_⟩
    obtain ⟨h0,o,ho,hall⟩:=mem_ready.1 hi
    have hlt:=(Array.getElem?_eq_some_iff.1 ho).1
    refine wpOp_mono (fun a' w' h' => ih (listed.setIfInBounds i true) a' w' (by simpa using hs) (by have:=leftOf_set h0; omega) ?_) (hstep i hlt (flags listed) a w h0 (fun j hj => ?_) h)
    · rw [flags_set]; exact h'
    · obtain ⟨oj,hoj,e,he,hb,rfl⟩:=Region.waitsFor_spec hj
      rw [ho] at hoj; cases hoj
      exact flags_false (hall e he hb)
theorem flags_none (k i : Nat) : flags (Array.replicate k false) i = decide (k ≤ i):=by
  unfold flags
  rcases Nat.lt_or_ge i k with h | h
  · simp [h]
  · simp [h]
theorem leftOf_none (k : Nat) : leftOf (Array.replicate k false) ≤ k:=by
  unfold leftOf
  have:=List.countP_le_length (p:=fun b => !b) (l:=(Array.replicate k false).toList)
  simpa using this
end Go.Proofs.YteefodibpjgicaaGreat

namespace Go.Proofs.YteefodibpjgicaaGreat
def updT (t : Nat → Value) (i : Nat) (v : Value) : Nat → Value:=fun j => if j = i then v else t j
@[simp] theorem updT_same (t : Nat → Value) (i : Nat) (v : Value) : updT t i v i = v:=by simp [updT]
theorem updT_ne (t : Nat → Value) {i j : Nat} (v : Value) (h : j ≠ i) : updT t i v j = t j:=by simp [updT,h]
def Kn (Vs : List (Option Value)) (f : Nat → Bool) (t : Nat → Value) : Prop:=∀ j V,f j = true → Vs[j]? = some (some V) → t j = V
theorem Kn.none (Vs : List (Option Value)) (n : Nat) (h : Vs.length = n) (t : Nat → Value) : Kn Vs (flags (Array.replicate n false)) t:=by
  intro j V hf hV
  rw [flags_none] at hf
  have h1 : n ≤ j:=by simpa using hf
  rw [List.getElem?_eq_none (by omega)] at hV
  cases hV
theorem Kn.upd {Vs : List (Option Value)} {f : Nat → Bool} {t : Nat → Value} {i : Nat} {v : Value} (h : Kn Vs f t) (hv : ∀ V,Vs[i]? = some (some V) → v = V) : Kn Vs (updF f i) (updT t i v):=by
  intro j V hf hV
  by_cases e : j = i
  · subst e; rw [updT_same]; exact hv V hV
  · rw [updT_ne _ _ e]; rw [updF_ne _ e] at hf; exact h j V hf hV
theorem Kn.at_ {Vs : List (Option Value)} {f : Nat → Bool} {t : Nat → Value} {i : Nat} {v : Value} (h : Kn Vs f t) (hv : Vs[i]? = some (some v)) : Kn Vs (updF f i) (updT t i v):=h.upd (fun V e => by rw [hv] at e; cases e; rfl)
theorem Kn.free {Vs : List (Option Value)} {f : Nat → Bool} {t : Nat → Value} {i : Nat} {v : Value} (h : Kn Vs f t) (hv : Vs[i]? = some .none) : Kn Vs (updF f i) (updT t i v):=h.upd (fun V e => by rw [hv] at e; cases e)
theorem wp_region_known {id n : Nat} {P : Program} {ops : Array Oper} {Q : Exit → Act → World → Prop} {a : Act} {w : World} (Vs : List (Option Value)) (A : (Nat → Value) → Act) (I : (Nat → Bool) → (Nat → Value) → World → Prop) (t0 : Nat → Value)
    (hm : P.follows .mixedOrders = true) (hn : ops.size = n) (hl : Vs.length = n) (hord : ordB .any ops = true) (ha : a = A t0) (h0 : I (fun i => decide (n ≤ i)) t0 w.drew)
    (hstep : ∀ i,i < n → ∀ (f : Nat → Bool) (t : Nat → Value) (W : World),f i = false → (∀ j,Region.waitsFor .any ops i j = true → f j = true) → Kn Vs f t → I f t W →
      wpOp P ops Q i (fun a' W' => ∃ v,a' = A (updT t i v) ∧ Kn Vs (updF f i) (updT t i v) ∧ I (updF f i) (updT t i v) W') (A t) W)
    (hdone : ∀ (f : Nat → Bool) (t : Nat → Value) (W : World),(∀ i,i < n → f i = true) → Kn Vs f t → I f t W → Q .normal (A t) W) :
    (Code.region id ops true).wp P Q a w:=by
  subst hn
  refine wp_region_any hm ?_
  change wpAny _ _ _ _ _ _ _ w.drew
  refine wpAny_inv (fun f ac W => ∃ t,ac = A t ∧ Kn Vs f t ∧ I f t W) hord ?_ ?_ _ _ _ _ (by simp) (leftOf_none _) ⟨t0,ha,Kn.none Vs _ hl t0,?_⟩
  · rintro i hi f ac W hfi hwt ⟨t,rfl,hk,hI⟩
    refine wpOp_mono ?_ (hstep i hi f t W hfi hwt hk hI)
    rintro a' W' ⟨v,h1,h2,h3⟩
    exact ⟨_,h1,h2,h3⟩
  · rintro f ac W hall ⟨t,rfl,hk,hI⟩
    exact hdone f t W hall hk hI
  · rw [show flags (Array.replicate ops.size false) = fun i => decide (ops.size ≤ i) from funext (flags_none _)]
    exact h0
end Go.Proofs.YteefodibpjgicaaGreat
