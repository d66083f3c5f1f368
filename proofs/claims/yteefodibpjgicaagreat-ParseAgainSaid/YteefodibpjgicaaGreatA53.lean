/- Texts joined: Par2, Par3, Shp7, Math7c, Math8a, Math5g, Math5h, Math5i, Math5j, Math8b, Math8c, Math8d, Math8e, Math8f, Math8g, Math8h. -/
import Derived.Lib.SlBytesConst
import Derived.Test.YteefodibpjgicaaGreatA10
import Derived.Test.YteefodibpjgicaaGreatA15
import Derived.Test.YteefodibpjgicaaGreatA21
import Derived.Test.YteefodibpjgicaaGreatA22
import Derived.Test.YteefodibpjgicaaGreatA25
import Derived.Test.YteefodibpjgicaaGreatA26
import Derived.Test.YteefodibpjgicaaGreatA31
import Derived.Test.YteefodibpjgicaaGreatA39
import Derived.Test.YteefodibpjgicaaGreatA40
import Derived.Test.YteefodibpjgicaaGreatA49
import Derived.Test.YteefodibpjgicaaGreatA50
import Derived.Test.YteefodibpjgicaaGreatA52
namespace Go.Proofs.YteefodibpjgicaaGreat
open Go.RowKit
theorem same_callP {w : World} {va vb : Value} {a b : List Nd} (ha : RepN (fun b => b < w.heap.size) w va a) (hb : RepN (fun b => b < w.heap.size) w vb b) : Calls Tryz.prog 38 #[va,vb] w (SamePost (M3.sameN a b) w) :=
  domSame (M3.weight a + 1) _ a b va vb w (Nat.lt_succ_self _) (fun _ h => h) ha hb
theorem same_callR {w : World} {va vb : Value} {a b : List Nd} (ha : RepN (fun b => b < w.heap.size) w va a) (hb : RepN (fun b => b < w.heap.size) w vb b) : Calls Tryz.prog 10 #[va,vb] w (SamePost (M3.sameN a b) w) :=
  ref03Same (M3.weight a + 1) _ a b va vb w (Nat.lt_succ_self _) (fun _ h => h) ha hb
theorem shr_lt {l : List Nd} {w w' : World} {v : Value} (h : RepN (fun b => False ∨ (w.heap.size ≤ b ∧ b < w'.heap.size)) w' v l) : RepN (fun b => b < w'.heap.size) w' v l:=h.mono fun _ h => h.elim (fun h => h.elim) (fun h => h.2)
set_option maxHeartbeats 2000000 in
set_option maxRecDepth 100000 in
theorem parKeeps (S : Nat → Prop) (v : Value) (l : List Nd) (w : World) (hg : Glo w) (hS : ∀ b,S b → b < w.heap.size) (hr : RepN S w v l) (hf : FitN l) (hl : (M4.textB false l).length ≤ 1073741824) (hft : FitL (M5.tokens (M4.textB false l))) :
    Calls Tryz.prog 21 #[v] w (SamePost (M3.sameN (again l) l) w):=by
  have hA:=Lib.hid (parAgain S v l w hg hS hr hf hl hft)
  obtain ⟨a,cap,rfl⟩:=hr.slice
  obtain ⟨wo,rfl⟩ : ∃ wo : World,wo = w:=⟨_,rfl⟩
  go_enter Tryz.func21,Tryz.ntmps21
  go_wp2_with fail
  refine hA.out.mono ?_
  rintro e w1 ⟨v1,rfl,hr1,hb⟩
  have hz:=hb.size
  have hS1:=Lib.hid (same_callP (shr_lt hr1) ((hr.below hS hb).mono fun b h => by have:=hS b h; omega))
  obtain ⟨a1,c1,rfl⟩:=hr1.slice
  clear hr1 hr
  go_wp2_with fail
  refine hS1.out.mono ?_
  rintro e w2 ⟨rfl,hb2⟩
  have hb02:=bt hb hb2
  go_wp2_with fail
  go_ret
  exact ⟨rfl,hb02⟩
namespace M5
theorem tokW_le (t : Tok) : M7.tokW t ≤ tokQ t:=by unfold M7.tokW tokQ; split <;> (try split) <;> omega
theorem sum_le_of {f g : Tok → Nat} (l : List Tok) (h : ∀ t,f t ≤ g t) : (l.map f).sum ≤ (l.map g).sum:=by
  induction l with
  | nil => exact Nat.le_refl _
  | cons t r ih => rw [List.map_cons,List.map_cons,List.sum_cons,List.sum_cons]; have:=h t; omega
end M5
def REF8 (l : List UInt8) : Prop:=(M5.tokens l).length ≤ 1000000 ∧ ((M5.tokens l).map M7.tokW).sum ≤ 1000000 ∧ ((M5.tokens l).map fun t => t.text.size).sum ≤ 536870912
set_option maxHeartbeats 2000000 in
set_option maxRecDepth 100000 in
theorem ref08Text (s : ByteArray) (w : World) (hs : s.size ≤ 1073741824) (hr8 : REF8 s.data.toList) :
    Calls Tryz.prog 30 #[.string s] w (ShrP (fun _ => False) (M7.tree (M5.tokens s.data.toList)) w):=by
  have hT:=Lib.hid (ref05Tokens s w hs)
  obtain ⟨hf1,hf2,hf3⟩:=hr8
  obtain ⟨wo,rfl⟩ : ∃ wo : World,wo = w:=⟨_,rfl⟩
  generalize M5.tokens s.data.toList = T at *
  go_enter Tryz.func30,Tryz.ntmps30
  go_wp2_with fail
  refine hT.out.mono ?_
  rintro e w1 ⟨v1,rfl,hl,hb⟩
  have hTR:=TokR.ofT hl
  have hz:=hb.size
  have hR:=Lib.hid (ref07Tree _ v1 T w1 (fun b h => h.2) hTR hf1 hf2 hf3)
  obtain ⟨a,cap,rfl⟩:=hl.slice
  clear hl hTR
  go_wp2_with fail
  refine hR.out.mono ?_
  rintro e w2 ⟨v2,rfl,hr2,hb2⟩
  have hz2:=hb2.size
  have hres : Hid (ShrP (fun _ => False) (M7.tree T) wo (.returned v2) w2):=⟨v2,rfl,hr2.mono fun b h => .inr (by
    rcases h with h | h
    · exact ⟨by omega,by omega⟩
    · exact ⟨by omega,h.2⟩),bt hb hb2⟩
  obtain ⟨a2,c2,rfl⟩:=hr2.slice
  clear hr2
  go_wp2_with fail
  go_ret
  exact hres.out
end Go.Proofs.YteefodibpjgicaaGreat

namespace Go.Proofs.YteefodibpjgicaaGreat
open Go.RowKit
def exB8 : List UInt8:=[60,112,62,97,60,100,105,118,62,98]
def exT8 : List UInt8:=[60,112,62,97,60,47,112,62,60,100,105,118,62,98,60,47,100,105,118,62]
def exA8 : Nd:=.mk 2 ⟨#[]⟩ [] ⟨#[97]⟩ []
def exC8 : Nd:=.mk 2 ⟨#[]⟩ [] ⟨#[98]⟩ []
def exP8 : Nd:=.mk 1 ⟨#[112]⟩ [] ⟨#[]⟩ [exA8]
def exD8 : Nd:=.mk 1 ⟨#[100,105,118]⟩ [] ⟨#[]⟩ [exC8]
def exL8 : List Nd:=[exP8,exD8]
theorem ex8_toks : M5.tokens exB8 = [⟨1,⟨#[112]⟩,[],⟨#[]⟩⟩,⟨3,⟨#[]⟩,[],⟨#[97]⟩⟩,⟨1,⟨#[100,105,118]⟩,[],⟨#[]⟩⟩,⟨3,⟨#[]⟩,[],⟨#[98]⟩⟩]:=by kernel_rfl
theorem ex8_tree : M7.tree [⟨1,⟨#[112]⟩,[],⟨#[]⟩⟩,⟨3,⟨#[]⟩,[],⟨#[97]⟩⟩,⟨1,⟨#[100,105,118]⟩,[],⟨#[]⟩⟩,⟨3,⟨#[]⟩,[],⟨#[98]⟩⟩] = exL8:=by kernel_rfl
theorem ex8_text : M4.textB false exL8 = exT8:=by kernel_rfl
theorem ex8_again : M7.tree (M5.tokens exT8) = exL8:=by kernel_rfl
theorem ex8_right : M1.right exB8 = exB8:=by kernel_rfl
theorem ex8_may : M3.mayE false exL8 = 0:=by kernel_rfl
theorem ex8_keeps : again exL8 = exL8:=by
  unfold again
  rw [if_pos ex8_may,ex8_text,ex8_again]
theorem ex8_fit : FitN exL8:=by
  have h0' : M3.weight exA8.kids = 0:=by kernel_rfl
  have h0'' : M3.weight exC8.kids = 0:=by kernel_rfl
  have h1 : M3.weight exP8.kids = 1:=by kernel_rfl
  have h2 : M3.weight exD8.kids = 1:=by kernel_rfl
  refine fitN_cons.2 ⟨⟨by decide,by decide,?_,by rw [h1]; decide⟩,fitN_cons.2 ⟨⟨by decide,by decide,?_,by rw [h0']; decide⟩,fitN_nil,fitN_nil⟩,fitN_cons.2 ⟨⟨by decide,by decide,?_,by rw [h2]; decide⟩,fitN_cons.2 ⟨⟨by decide,by decide,?_,by rw [h0'']; decide⟩,fitN_nil,fitN_nil⟩,fitN_nil⟩⟩
  · intro a ha; simp [exP8,Nd.attrs] at ha
  · intro a ha; simp [exA8,Nd.attrs] at ha
  · intro a ha; simp [exD8,Nd.attrs] at ha
  · intro a ha; simp [exC8,Nd.attrs] at ha
set_option maxHeartbeats 4000000 in
set_option maxRecDepth 100000 in
theorem lives08 (w : World) (hg : Glo w) : Calls Tryz.prog 15 #[] w fun e w' => e = .returned (.bool true) ∧ Below w.heap.size w w':=by
  obtain ⟨wo,rfl⟩ : ∃ wo : World,wo = w:=⟨_,rfl⟩
  have hcv:=fun (w : World) (C : Array Value) (n c : Nat) => Lib.run_convert_bytes_const (P:=Tryz.prog) w 22 5 C n c Tryz.underlying22 Tryz.underlying5
  obtain ⟨w1,hw1⟩ : ∃ W,wo.alloc (.cells (u8s exB8).toArray 5 (10,11)) = W:=⟨_,rfl⟩
  have bx : w1.heap[wo.heap.size]? = some (.cells (u8s exB8).toArray 5 (10,11)):=by rw [← hw1]; exact heap_alloc_new wo _
  have hb1 : Below wo.heap.size wo w1:=by rw [← hw1]; exact (Below.refl _ _).alloc (Nat.le_refl _) _
  have hSl : Sl w1 (.slice (some ⟨wo.heap.size,0,none⟩) 10 10) (u8s exB8):=by
    refine ⟨some ⟨wo.heap.size,0,none⟩,10,rfl,by decide,by decide,by simp,fun _ => ⟨wo.heap.size,0,rfl,fun j hj => ?_⟩⟩
    rw [Nat.zero_add,cell_of_row w1 wo.heap.size j _ _ _ bx]
    simp
  have hP:=Lib.hid (parBytes _ exB8 w1 (hg.below hb1 (Nat.le_refl _)) hSl (by decide))
  rw [ex8_right,ex8_toks,ex8_tree] at hP
  clear hSl bx
  go_enter Tryz.func15,Tryz.ntmps15
  go_wp2_with fail
  rw [show wo.alloc (.cells #[.int .u8 60,.int .u8 112,.int .u8 62,.int .u8 97,.int .u8 60,.int .u8 100,.int .u8 105,.int .u8 118,.int .u8 62,.int .u8 98] 5 (10,11)) = w1 from hw1]
  clear hw1
  go_wp2_with fail
  refine hP.out.mono ?_
  rintro e w2 ⟨v2,rfl,hr2,hb2⟩
  have hR:=shr_lt hr2
  have hb02:=bt hb1 hb2
  have hK:=Lib.hid (parKeeps _ v2 exL8 w2 (hg.below hb02 (Nat.le_refl _)) (fun b h => h) hR ex8_fit (by rw [ex8_text]; decide) (M5.toks_fit _ (by rw [ex8_text]; decide)).1)
  rw [ex8_keeps,M3.sameN_self] at hK
  obtain ⟨a5,c5,rfl⟩:=hR.slice
  obtain ⟨b5,o5,va5,vk5,rfl,-,-,y1,-,-,y4,hrv⟩:=hR.at_ 0 (by decide)
  obtain ⟨b5',o5',va5',vk5',e5,-,-,z1,-,-,-,-⟩:=hR.at_ 1 (by decide)
  cases e5
  simp only [Nat.zero_mul,Nat.one_mul,Nat.add_zero] at y1 y4 z1
  obtain ⟨ak,ck,rfl⟩:=hrv.2.slice
  obtain ⟨b6,o6,va6,vk6,rfl,-,-,-,-,x3,-,-⟩:=hrv.2.at_ 0 (by decide)
  simp only [Nat.zero_mul,Nat.add_zero] at x3
  replace y1 : w2.cell? ⟨b5,o5 + 1,none⟩ = some (.string ⟨#[112]⟩):=y1
  replace y4 : w2.cell? ⟨b5,o5 + 4,none⟩ = some (.slice (some ⟨b6,o6,none⟩) 1 ck):=y4
  replace z1 : w2.cell? ⟨b5,o5 + 5 + 1,none⟩ = some (.string ⟨#[100,105,118]⟩):=z1
  replace x3 : w2.cell? ⟨b6,o6 + 3,none⟩ = some (.string ⟨#[97]⟩):=x3
  clear hr2 hR hrv hP
  change Hid (Calls Tryz.prog 21 #[.slice (some ⟨b5,o5,none⟩) 2 c5] w2 (SamePost true w2)) at hK
  go_wp2_with fail
  refine hK.out.mono ?_
  rintro e w3 ⟨rfl,hb3⟩
  have hb03:=bt hb02 hb3
  go_wp2_with fail
  go_ret
  exact ⟨rfl,hb03⟩
end Go.Proofs.YteefodibpjgicaaGreat

namespace Go.Proofs.YteefodibpjgicaaGreat
open Go.RowKit
end Go.Proofs.YteefodibpjgicaaGreat

namespace Go.Proofs.YteefodibpjgicaaGreat
namespace M7
open M3 (isText withText cat push)
end M7
end Go.Proofs.YteefodibpjgicaaGreat

namespace Go.Proofs.YteefodibpjgicaaGreat
namespace M7
open M3 (isText withText cat push mayE oneE)
end M7
end Go.Proofs.YteefodibpjgicaaGreat

namespace Go.Proofs.YteefodibpjgicaaGreat.M5
end Go.Proofs.YteefodibpjgicaaGreat.M5

namespace Go.Proofs.YteefodibpjgicaaGreat.M5
end Go.Proofs.YteefodibpjgicaaGreat.M5

namespace Go.Proofs.YteefodibpjgicaaGreat.M5
end Go.Proofs.YteefodibpjgicaaGreat.M5

namespace Go.Proofs.YteefodibpjgicaaGreat.M5
def SmallN (x : Nd) : Prop:=x.name.size ≤ 30 ∧ ∀ a ∈ x.attrs,a.name.size ≤ 30 ∧ a.value.size ≤ 120
end Go.Proofs.YteefodibpjgicaaGreat.M5

namespace Go.Proofs.YteefodibpjgicaaGreat
namespace M5
end M5
end Go.Proofs.YteefodibpjgicaaGreat

namespace Go.Proofs.YteefodibpjgicaaGreat
namespace M5
open M1 (isB)
end M5
end Go.Proofs.YteefodibpjgicaaGreat

namespace Go.Proofs.YteefodibpjgicaaGreat
namespace M7
open M3 (isText withText cat push mayE oneE okP apart)
end M7
end Go.Proofs.YteefodibpjgicaaGreat

namespace Go.Proofs.YteefodibpjgicaaGreat
open M3 (push withText cat isText)
namespace M7
end M7
namespace M5
end M5
end Go.Proofs.YteefodibpjgicaaGreat

namespace Go.Proofs.YteefodibpjgicaaGreat
open M5 (TB qs qs_app qs_one)
end Go.Proofs.YteefodibpjgicaaGreat

namespace Go.Proofs.YteefodibpjgicaaGreat
namespace M2
open M1
theorem ownB_len {own : List UInt8} {r : Int} (h : ownB own = some r) : 2 ≤ own.length:=by
  unfold ownB at h
  split at h
  · rename_i hx
    have : (own.take 2).length = 2:=by rcases hx with e | e <;> rw [e] <;> rfl
    rw [List.length_take] at this
    omega
  split at h
  · unfold numR at h
    split at h
    · rename_i hx
      have:=hx.1
      rw [List.length_drop] at this
      omega
    · cases h
  · obtain ⟨n,h1,-⟩:=Option.map_eq_some_iff.1 h
    have h2:=nm_mem h1
    have h3 : ∀ p ∈ tbl,2 ≤ p.1.length:=by decide
    exact h3 _ h2
theorem decode_len1 : ∀ (n : Nat) (l : List UInt8),l.length ≤ n → (decode l).length ≤ l.length:=by
  intro n
  induction n with
  | zero => intro l hl; have : l = []:=List.eq_nil_of_length_eq_zero (by omega); subst this; rw [decode_nil]; exact Nat.le_refl _
  | succ n ih =>
    intro l hl
    cases l with
    | nil => rw [decode_nil]; exact Nat.le_refl _
    | cons c t =>
      cases h : one (c :: t) with
      | none =>
        have:=ih t (by simp at hl; omega)
        rw [decode_byte h]
        simp; omega
      | some p =>
        have hb:=one_bd (r:=p.1) (n:=p.2) h
        obtain ⟨own,rest,-,e2,e3⟩:=one_some (r:=p.1) (n:=p.2) h
        have h4:=ownB_len e3
        have:=ih ((c :: t).drop p.2) (by rw [List.length_drop]; omega)
        have he:=enc_len_le p.1
        rw [decode_ref (r:=p.1) (n:=p.2) h,List.length_append]
        rw [List.length_drop] at this
        omega
end M2
namespace M5
theorem chars_Q2 (p : List UInt8) : qs (charsT p) ≤ 2 * p.length:=by
  unfold charsT
  cases p with
  | nil => exact Nat.le_refl _
  | cons c r =>
    have h:=M2.decode_len1 (c :: r).length (c :: r) (Nat.le_refl _)
    rw [if_neg (by simp),qs_one]
    show 1 + 0 + (bs _).size ≤ _
    rw [bs_sz]; simp only [List.length_cons] at *; omega
theorem raw_Q2 (t : Tok) (l : List UInt8) : qs (rawT t l).1 + 2 * (rawT t l).2.length ≤ 2 * l.length:=by
  unfold rawT
  split
  · have hle:=endN_le t.name.data.toList l
    have hl : (l.take (endN t.name.data.toList l)).length = endN t.name.data.toList l:=by rw [List.length_take]; omega
    have h : qs (asIs (l.take (endN t.name.data.toList l))) ≤ 2 * (l.take (endN t.name.data.toList l)).length:=by
      generalize l.take (endN t.name.data.toList l) = p
      unfold asIs
      cases p with
      | nil => exact Nat.le_refl _
      | cons c r =>
        rw [if_neg (by simp),qs_one]
        show 1 + 0 + (bs _).size ≤ _
        rw [bs_sz]; simp only [List.length_cons] at *; omega
    show qs (asIs _) + 2 * (l.drop _).length ≤ _
    rw [List.length_drop]; omega
  · show qs [] + 2 * l.length ≤ _
    rw [qs_nil]; omega
theorem toks_Q2 : ∀ (n : Nat) (l p : List UInt8),l.length ≤ n → qs (toksR p l) ≤ 2 * (p.length + l.length):=by
  intro n
  induction n with
  | zero =>
    intro l p hl
    obtain rfl : l = []:=List.eq_nil_of_length_eq_zero (by omega)
    rw [toksR_nil]
    exact chars_Q2 p
  | succ n ih =>
    intro l p hl
    cases l with
    | nil => rw [toksR_nil]; exact chars_Q2 p
    | cons c r =>
      cases hs : startsB (c :: r)
      · rw [toksR_text p c r hs]
        have:=ih r (p ++ [c]) (by simp at hl; omega)
        rw [List.length_append,List.length_singleton] at this
        rw [List.length_cons,show p.length + (r.length + 1) = p.length + 1 + r.length by omega]
        exact this
      · rw [toksR_tag p _ hs]
        have hlt:=tag_lt _ hs
        have t2:=(tag_Q _ hs).2
        have hc:=chars_Q2 p
        have r1:=raw_Q2 (tagR (c :: r)).1 (tagR (c :: r)).2
        have r2:=(raw_Q (tagR (c :: r)).1 (tagR (c :: r)).2).2.1
        generalize rawT (tagR (c :: r)).1 (tagR (c :: r)).2 = W at *
        generalize tagR (c :: r) = T at *
        generalize c :: r = L at *
        have i1:=ih W.2 [] (by omega)
        rw [List.length_nil,Nat.zero_add] at i1
        have hk : qs (if T.1.kind ≠ 0 then [T.1] else []) ≤ tokQ T.1:=by
          split
          · rw [qs_one]; exact Nat.le_refl _
          · exact Nat.zero_le _
        rw [qs_app,qs_app,qs_app]
        omega
theorem toks_fit3 (l : List UInt8) (h : l.length ≤ 200000) : FitL (tokens l):=by
  have h1:=toks_Q2 l.length l [] (Nat.le_refl _)
  have h2:=(toks_Q l.length l [] (Nat.le_refl _)).2
  rw [List.length_nil,Nat.zero_add] at h1 h2
  refine ⟨by have : qs (toksR [] l) ≤ _:=h1; unfold qs at this; show (List.map tokQ (toksR [] l)).sum ≤ _; omega,fun t ht => ?_⟩
  obtain ⟨a,b,c,d⟩:=h2 t ht
  refine ⟨⟨by omega,by omega,by omega⟩,?_⟩
  rcases d with e | e | e | e <;> rw [e] <;> decide
end M5
open M5 (R)
theorem values_right {l : List Att} (h : M3.valuesE l = 0) : ∀ a ∈ l,M1.isB a.value.data.toList = true:=by
  induction l with
  | nil => intro a ha; exact (nomatch ha)
  | cons b r ih =>
    rw [M3.valuesE] at h
    split at h
    · rename_i hb
      intro a ha
      rcases List.mem_cons.1 ha with rfl | ha
      · exact hb
      · exact ih h a ha
    · exact absurd h (by decide)
def cst : List Nd → Nat
  | [] => 0
  | .mk _ _ a t ks :: r => 65 + 754 * a.length + 6 * t.size + cst ks + cst r
termination_by l => SizeOf.sizeOf l
def cst1 (x : Nd) : Nat:=65 + 754 * x.attrs.length + 6 * x.text.size + cst x.kids
theorem cst_nil : cst [] = 0:=by rw [cst]
theorem cst_cons (x : Nd) (r : List Nd) : cst (x :: r) = cst1 x + cst r:=by cases x; rw [cst]; rfl
theorem cst_app (a b : List Nd) : cst (a ++ b) = cst a + cst b:=by
  induction a with
  | nil => rw [List.nil_append,cst_nil,Nat.zero_add]
  | cons x r ih => rw [List.cons_append,cst_cons,cst_cons,ih]; omega
theorem cst_push (L : List Nd) (n : Nd) : cst (M3.push L n) ≤ cst L + cst1 n:=by
  cases hb : M3.bareB n
  · rcases List.eq_nil_or_concat L with rfl | ⟨A,y,rfl⟩
    · rw [M3.push_none hb,cst_cons,cst_nil]; omega
    · rw [List.concat_eq_append,M3.push_snoc hb]
      split
      · rw [cst_app,cst_app,cst_cons,cst_cons,cst_nil]
        have h1 : (M3.cat y.text n.text).size = y.text.size + n.text.size:=by
          show ((y.text.data.toList ++ n.text.data.toList).toArray).size = _
          rw [List.size_toArray,List.length_append]
          rfl
        have h2 : cst1 (M3.withText y (M3.cat y.text n.text)) = 65 + 754 * y.attrs.length + 6 * (M3.cat y.text n.text).size + cst y.kids:=rfl
        rw [h2,h1]
        unfold cst1
        omega
      · rw [cst_app (A ++ [y]),cst_cons,cst_nil]; omega
  · rw [M3.push_bare hb]; omega
theorem cst_merge (l : List Nd) : cst (M3.merge l) ≤ cst l:=by
  have key : ∀ (l out : List Nd),cst (l.foldl M3.push out) ≤ cst out + cst l:=by
    intro l
    induction l with
    | nil => intro out; show cst out ≤ _; omega
    | cons x r ih =>
      intro out
      have h1:=ih (M3.push out x)
      have h2:=cst_push out x
      rw [List.foldl_cons,cst_cons]
      omega
  have:=key l []
  rw [cst_nil] at this
  unfold M3.merge
  omega
def SmR : List Nd → Prop
  | [] => True
  | .mk k n a t ks :: r => M5.SmallN (.mk k n a t ks) ∧ SmR ks ∧ SmR r
termination_by l => SizeOf.sizeOf l
theorem smr_nil : SmR []:=by rw [SmR]; trivial
theorem smr_cons {x : Nd} {r : List Nd} : SmR (x :: r) ↔ M5.SmallN x ∧ SmR x.kids ∧ SmR r:=by cases x; rw [SmR]; rfl
theorem smr_iff {l : List Nd} : SmR l ↔ ∀ x ∈ l,M5.SmallN x ∧ SmR x.kids:=by
  induction l with
  | nil => simp [smr_nil]
  | cons x r ih => rw [smr_cons,ih]; simp; exact ⟨fun h => ⟨⟨h.1,h.2.1⟩,h.2.2⟩,fun h => ⟨h.1.1,h.1.2,h.2⟩⟩
theorem smr_merge {l : List Nd} (h : SmR l) : SmR (M3.merge l) :=
  smr_iff.2 (M3.merge_all (P:=fun x => M5.SmallN x ∧ SmR x.kids) (fun x y hx _ _ _ => by
    unfold M5.SmallN at *
    rw [M3.withText_name,M3.withText_attrs,M3.withText_kids]; exact hx) l (smr_iff.1 h))
theorem text_cst (l : List Nd) : ∀ raw,SmR l → (M4.textB raw l).length ≤ cst l:=by
  induction l using Nd.ind with
  | h0 => intro raw _; rw [M4.textB_nil]; exact Nat.zero_le _
  | h1 k n a t ks r ih1 ih2 =>
    intro raw hs
    obtain ⟨s1,s2,s3⟩:=smr_cons.1 hs
    rw [M4.textB_cons,List.length_append,cst_cons]
    have h2:=ih2 raw s3
    have ha : ∀ l : List Att,(∀ b ∈ l,b.name.size ≤ 30 ∧ b.value.size ≤ 120) → (M4.attsB l).length ≤ 754 * l.length:=by
      intro l
      induction l with
      | nil => intro _; exact Nat.le_refl _
      | cons b r ih =>
        intro hb
        have e : M4.attsB (b :: r) = M4.attB b ++ M4.attsB r:=by unfold M4.attsB; rw [List.flatMap_cons]
        have h:=M2.escape_len true b.value.data.toList
        have h2 : (M4.attB b).length = 4 + b.name.size + (M2.escape true b.value.data.toList).length:=by
          unfold M4.attB
          simp only [List.length_cons,List.length_append,List.length_nil]
          have : b.name.data.toList.length = b.name.size:=rfl
          omega
        have h3 : b.value.data.toList.length = b.value.size:=rfl
        have h4:=hb b (by simp)
        have h5:=ih (fun c hc => hb c (by simp [hc]))
        rw [e,List.length_append,List.length_cons]
        omega
    have h1 : (M4.oneB raw (.mk k n a t ks)).length ≤ cst1 (.mk k n a t ks):=by
      have e : cst1 (.mk k n a t ks) = 65 + 754 * a.length + 6 * t.size + cst ks:=rfl
      rw [e]
      have s10 : n.size ≤ 30:=s1.1
      unfold M4.oneB
      by_cases hk1 : k = 1
      · rw [if_pos (show (Nd.mk k n a t ks).kind = 1 from hk1)]
        show (M4.headB n a ++ ((if M3.voidB n.data.toList = true then [] else M4.textB (M3.rawB n.data.toList) ks) ++ M4.endB n)).length ≤ _
        rw [List.length_append,List.length_append,M4.headB_len]
        have h3:=M4.endB_len n
        have h4:=ha a (fun b hb => s1.2 b hb)
        have h5 : (if M3.voidB n.data.toList = true then [] else M4.textB (M3.rawB n.data.toList) ks).length ≤ cst ks:=by
          split
          · exact Nat.zero_le _
          · exact ih1 _ s2
        omega
      rw [if_neg (show ¬ (Nd.mk k n a t ks).kind = 1 from hk1)]
      by_cases hk2 : k = 2
      · rw [if_pos (show (Nd.mk k n a t ks).kind = 2 from hk2)]
        show (M4.charsB raw t).length ≤ _
        have h3 : t.data.toList.length = t.size:=rfl
        unfold M4.charsB
        split
        · omega
        · have:=M2.escape_len false t.data.toList
          omega
      rw [if_neg (show ¬ (Nd.mk k n a t ks).kind = 2 from hk2)]
      by_cases hk3 : k = 3
      · rw [if_pos (show (Nd.mk k n a t ks).kind = 3 from hk3)]
        show (M4.commB t).length ≤ _
        unfold M4.commB
        simp only [List.length_append,List.length_cons,List.length_nil]
        have h3 : t.data.toList.length = t.size:=rfl
        omega
      · rw [if_neg (show ¬ (Nd.mk k n a t ks).kind = 3 from hk3)]
        exact Nat.zero_le _
    omega
theorem smr_goodN (l : List Nd) : Sm30 l → SmR (M3.goodN l):=by
  induction l using Nd.ind with
  | h0 => intro _; rw [M3.goodN_nil]; exact smr_nil
  | h1 k n ats t ks r ih1 ih2 =>
    intro hs
    obtain ⟨s1,s2,s3⟩:=sm_cons.1 hs
    rw [M3.goodN_cons,M3.good1_mk]
    refine smr_cons.2 ?_
    by_cases h : M3.kindN k = 1
    · rw [if_pos h]
      have h6:=M3.wordN_size n 30 s1.1 (by omega)
      refine ⟨⟨h6,?_⟩,smr_merge (ih1 s2),ih2 s3⟩
      refine M3.goodA_all ats (fun a ha => ?_)
      have h7:=s1.2.2 a ha
      have h8:=M3.attrN_size a.name 30 h7.1 (by omega)
      have h9:=M3.rightN_size a.value
      exact ⟨h8,by show (M3.rightN a.value).size ≤ _; omega⟩
    · rw [if_neg h]
      exact ⟨⟨by show (⟨#[]⟩ : ByteArray).size ≤ _; decide,fun a ha => (nomatch (show a ∈ ([] : List Att) from ha))⟩,smr_nil,ih2 s3⟩
theorem cst_goodN (l : List Nd) : Sm30 l → cst (M3.goodN l) ≤ 785 * M3.weight l:=by
  induction l using Nd.ind with
  | h0 => intro _; rw [M3.goodN_nil,cst_nil]; exact Nat.zero_le _
  | h1 k n ats t ks r ih1 ih2 =>
    intro hs
    obtain ⟨s1,s2,s3⟩:=sm_cons.1 hs
    have h2:=ih2 s3
    have h1:=Nat.le_trans (cst_merge (M3.goodN ks)) (ih1 s2)
    rw [M3.goodN_cons,M3.good1_mk,cst_cons,M3.weight_cons]
    have hw : 785 * (1 + (Nd.mk k n ats t ks).attrs.length + M3.weight (Nd.mk k n ats t ks).kids + M3.weight r) = 785 + 785 * ats.length + 785 * M3.weight ks + 785 * M3.weight r:=by
      show 785 * (1 + ats.length + M3.weight ks + M3.weight r) = _
      omega
    rw [hw]
    split
    · have h3:=M3.goodA_len ats
      show 65 + 754 * (M3.goodA ats).length + 6 * 0 + cst (M3.merge (M3.goodN ks)) + _ ≤ _
      omega
    · have h6:=M3.rightN_size t
      have h7 : t.size ≤ 30:=s1.2.1
      show 65 + 754 * 0 + 6 * (M3.rightN t).size + cst [] + _ ≤ _
      rw [cst_nil]
      omega
theorem gd_text (l : List Nd) (raw : Bool) : (M4.textB raw (gdN l)).length ≤ 188400:=by
  have h1:=text_cst (gdN l) raw (smr_merge (smr_goodN _ (few_sm l)))
  have h2:=Nat.le_trans (cst_merge _) (cst_goodN (fewN l) (few_sm l))
  have h3:=fewN_weight l
  have h4 : cst (gdN l) ≤ 785 * M3.weight (fewN l):=h2
  omega
theorem gd_toks (l : List Nd) : FitL (M5.tokens (M4.textB false (gdN l))):=M5.toks_fit3 _ (by have:=gd_text l false; omega)
end Go.Proofs.YteefodibpjgicaaGreat

namespace Go.Proofs.YteefodibpjgicaaGreat
theorem sameA_eq : ∀ (a b : List Att),M3.sameA a b = true → a = b
  | [],[],_ => rfl
  | [],_ :: _,h => by simp [M3.sameA] at h
  | _ :: _,[],h => by simp [M3.sameA] at h
  | x :: r,y :: s,h => by
    rw [M3.sameA] at h
    simp only [Bool.and_eq_true] at h
    obtain ⟨⟨h1,h2⟩,h3⟩:=h
    have e1:=M3.eqB_iff.1 h1
    have e2:=M3.eqB_iff.1 h2
    have e3:=sameA_eq r s h3
    cases x; cases y
    simp_all
theorem sameN_eq (a : List Nd) : ∀ b,M3.sameN a b = true → a = b:=by
  induction a using Nd.ind with
  | h0 =>
    intro b h
    cases b with
    | nil => rfl
    | cons y s => exact absurd h (by rw [M3.sameN] <;> simp)
  | h1 k n a t ks r ih1 ih2 =>
    intro b h
    cases b with
    | nil => exact absurd h (by rw [M3.sameN] <;> simp)
    | cons y s =>
      rw [M3.sameN] at h
      simp only [Bool.and_eq_true,beq_iff_eq] at h
      obtain ⟨⟨⟨⟨⟨h1,h2⟩,h3⟩,h4⟩,h5⟩,h6⟩:=h
      have e2:=M3.eqB_iff.1 h2
      have e3:=M3.eqB_iff.1 h3
      have e4:=sameA_eq _ _ h4
      have e5:=ih1 _ h5
      have e6:=ih2 _ h6
      cases y with
      | mk k' n' a' t' ks' =>
        change k = k' at h1
        change n = n' at e2
        change t = t' at e3
        change a = a' at e4
        change ks = ks' at e5
        subst h1 e2 e3 e4 e5 e6
        rfl
end Go.Proofs.YteefodibpjgicaaGreat
