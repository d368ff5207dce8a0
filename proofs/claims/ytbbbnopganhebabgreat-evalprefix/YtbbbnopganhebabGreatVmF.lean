/-
  A scheme of Check for Numbers; what the two sources of the chapter say.
-/
import Derived.Test.YtbbbnopganhebabGreatCkG
import Derived.Test.YtbbbnopganhebabGreatG25
import Derived.Test.YtbbbnopganhebabGreatVlG
import Derived.Test.YtbbbnopganhebabGreatG18
namespace Go.Proofs.YtbbbnopganhebabGreat
open Go.RowKit Go.Deep Go.Maps
def scOf (c:Ck):Sc:=⟨c.letters,c.defs,c.subst,c.pieces,c.mode,c.banded,c.lo,c.hi,c.front,c.back,c.least⟩
/-- What Numbers asks of what Check gave. -/
structure CkFit (c:Ck):Prop where
 letters:c.letters.length <= maxLen
 defs:c.defs.length <= maxLen
 subst:c.subst.length <= maxLen
 pieces:c.pieces.length <= maxLen
 fits:∀ d ∈ c.defs,InR d.num
theorem dfs_own {w:World} {v:Value} {l:List Df} (h:w.ownsRow 0 53 4 v l.length (dfRow l)) (hs:l.length <= maxLen) (hf:∀ d ∈ l,InR d.num):∃ ao cap,v = .slice ao l.length cap /\ DfsAt w ao l.length l:=by
 obtain ⟨ao,cap,rfl⟩:=owned_shape h
 refine ⟨ao,cap,rfl,rfl,hs,hf,fun h0=>?_⟩
 obtain ⟨g,cap',e,_⟩:=owned_some h h0
 cases e
 refine ⟨g,0,rfl,fun i d hi=>?_⟩
 have c:∀ (j:Nat) (u:Value),(dfCells d)[j]? = some u -> w.cell? ⟨g,0 + (i * 4 + j),none⟩ = some u:=fun j u hu=>by
  rw [Nat.zero_add]
  exact (owned_cells h _ _ (flat_get (s:=4) (fun _=>rfl) l i d j u hi hu)).1
 exact ⟨c 0 _ rfl,c 1 _ rfl,c 2 _ rfl,c 3 _ rfl⟩
theorem pcs_own {w:World} {v:Value} {e:TypeId} {base:Nat} {l:List (Int × Int)} (h:w.ownsRow base e 2 v l.length (pcRow l)) (hs:l.length <= maxLen):∃ ao cap,v = .slice ao l.length cap /\ PcsAt w ao l.length l:=by
 obtain ⟨ao,cap,rfl⟩:=owned_shape h
 refine ⟨ao,cap,rfl,rfl,hs,fun h0=>?_⟩
 obtain ⟨g,cap',e,_⟩:=owned_some h h0
 cases e
 refine ⟨g,0,rfl,fun i d hi=>?_⟩
 have c:∀ (j:Nat) (u:Value),(pcCells d)[j]? = some u -> w.cell? ⟨g,0 + (i * 2 + j),none⟩ = some u:=fun j u hu=>by
  rw [Nat.zero_add]
  exact (owned_cells h _ _ (flat_get (s:=2) (fun _=>rfl) l i d j u hi hu)).1
 exact ⟨c 0 _ rfl,c 1 _ rfl⟩
theorem sch_sc {w:World} {c:Ck} {s:Sl} (h:SchAt w c s) (hf:CkFit c):∃ da dc sa sc pa pc,schV c s = .agg (scCells (scOf c) da c.defs.length dc sa c.subst.length sc pa c.pieces.length pc) /\ ScAt w (scOf c) da c.defs.length sa c.subst.length pa c.pieces.length:=by
 obtain ⟨da,dc,e1,h1⟩:=dfs_own h.defs hf.defs hf.fits
 obtain ⟨sa,sc,e2,h2⟩:=own_isI h.subst
 obtain ⟨pa,pc,e3,h3⟩:=pcs_own h.pieces hf.pieces
 refine ⟨da,dc,sa,sc,pa,pc,?_,hf.letters,h1,⟨rfl,hf.subst,h2⟩,h3⟩
 unfold schV scCells
 rw [e1,e2,e3]
 rfl
end Go.Proofs.YtbbbnopganhebabGreat
