/-
  The walks of the document's own IsName, number, text, IsText, sign. The walks of the document's own text, IsText, sign. Where the tokens of a source stand, and what they are.
-/
import Derived.Test.YtlaodgdlkkmmeaaGreatG22
import Derived.Test.YtlaodgdlkkmmeaaGreatG03
namespace Go.Proofs.YtlaodgdlkkmmeaaGreat
open Go.RowKit
/-! number -/
/-! text -/
/-! IsText -/
/-! sign -/
/-- A token that stands in a source at its place. -/
structure Good (S:List UInt8) (t:Tk):Prop where
 some:S.drop t.pl ≠ []
 right:errB (S.drop t.pl) = 0
 is:t = tkB (S.drop t.pl) t.pl
theorem Good.lt {S:List UInt8} {t:Tk} (h:Good S t):t.pl < S.length:=by
 rcases Nat.lt_or_ge t.pl S.length with h1 | h1
 ·exact h1
 ·exact absurd (List.drop_eq_nil_of_le h1) h.some
/-- The place of the next token. -/
def nxt (S:List UInt8) (p:Nat):Nat:=p + lenB (S.drop p) + skipB (S.drop (p + lenB (S.drop p)))
theorem tokGo_ok {S:List UInt8} {p:Nat} (f:Nat) (hs:S.drop p ≠ []) (he:errB (S.drop p) = 0):tokGo (f + 1) p (S.drop p) = (tkB (S.drop p) p :: (tokGo f (nxt S p) (S.drop (nxt S p))).1,(tokGo f (nxt S p) (S.drop (nxt S p))).2):=by
 have e1:(S.drop p).drop (lenB (S.drop p)) = S.drop (p + lenB (S.drop p)):=by rw [List.drop_drop]
 have e2:(S.drop p).drop (lenB (S.drop p) + skipB (S.drop (p + lenB (S.drop p)))) = S.drop (nxt S p):=by rw [List.drop_drop]; unfold nxt; rw [Nat.add_assoc]
 rw [tokGo,if_neg hs,if_neg (by simp [he])]
 simp only [e1,e2]
 rfl
theorem tokGo_err {S:List UInt8} {p:Nat} (f:Nat) (hs:S.drop p ≠ []) (he:errB (S.drop p) ≠ 0):tokGo (f + 1) p (S.drop p) = ([],p,errB (S.drop p)):=by
 rw [tokGo,if_neg hs,if_pos he]
theorem tokGo_nil {S:List UInt8} {p:Nat} (f:Nat) (hs:S.drop p = []):tokGo f p (S.drop p) = ([],0,0):=by
 rw [hs]
 cases f <;> simp [tokGo]
theorem nxt_gt {S:List UInt8} {p:Nat} (hs:S.drop p ≠ []):p < nxt S p:=by
 have:=lenB_pos hs
 unfold nxt; omega
theorem tok_good (S:List UInt8):∀ (f p:Nat),∀ t ∈ (tokGo f p (S.drop p)).1,Good S t /\ p <= t.pl
 | 0,p,t,ht=>by simp [tokGo] at ht
 | f + 1,p,t,ht=>by
   by_cases hs:S.drop p = []
   ·rw [tokGo_nil _ hs] at ht; cases ht
   ·by_cases he:errB (S.drop p) = 0
    ·rw [tokGo_ok f hs he] at ht
     rcases List.mem_cons.1 ht with rfl | ht
     ·exact ⟨⟨hs,he,rfl⟩,Nat.le_refl _⟩
     ·have:=tok_good S f _ t ht
      have:=nxt_gt hs
      exact ⟨(tok_good S f _ t ht).1,by omega⟩
    ·rw [tokGo_err f hs he] at ht; cases ht
theorem tok_rise (S:List UInt8):∀ (f p:Nat),(tokGo f p (S.drop p)).1.Pairwise fun a b=>a.pl < b.pl
 | 0,p=>by simp [tokGo]
 | f + 1,p=>by
   by_cases hs:S.drop p = []
   ·rw [tokGo_nil _ hs]; exact List.Pairwise.nil
   ·by_cases he:errB (S.drop p) = 0
    ·rw [tokGo_ok f hs he]
     refine List.pairwise_cons.2 ⟨fun t ht=>?_,tok_rise S f _⟩
     have h1:=(tok_good S f _ t ht).2
     have h2:=nxt_gt hs
     show p < t.pl
     omega
    ·rw [tokGo_err f hs he]; exact List.Pairwise.nil
/-- What a source without a fault says. -/
theorem scan_good {S:List UInt8} (h:(scanB S).2.2 = 0):S.length <= 4000 /\ (scanB S).2.1 = 0 /\ ∃ T,(scanB S).1 = T ++ [endTk S.length] /\ (∀ t ∈ T,Good S t) /\ ((scanB S).1.Pairwise fun a b=>a.pl < b.pl):=by
 unfold scanB at h ⊢
 split at h
 ·cases h
 ·rename_i hl
  rw [if_neg hl]
  refine ⟨by omega,?_⟩
  unfold finB at h ⊢
  split at h
  ·rename_i h0
   rw [if_pos h0]
   have hg:=tok_good S (S.drop (skipB S)).length (skipB S)
   have hr:=tok_rise S (S.drop (skipB S)).length (skipB S)
   refine ⟨rfl,_,rfl,fun t ht=>(hg t ht).1,?_⟩
   rw [List.pairwise_append]
   refine ⟨hr,by simp,fun a ha b hb=>?_⟩
   simp only [List.mem_singleton] at hb
   subst hb
   exact (hg a ha).1.lt
  ·rename_i h0
   exact absurd h h0
end Go.Proofs.YtlaodgdlkkmmeaaGreat
