/-
  How far from the diagonal paths may go: band.
-/
import Derived.Test.YtbbbnopganhebabGreatG31
namespace Go.Proofs.YtbbbnopganhebabGreat
open Go.RowKit Go.Deep Go.Maps
open Go.Value renaming int->I
open Go.IntKind renaming i64->J
set_option maxRecDepth 20000
theorem LS.putB {w W:World} {O0 O:Nat -> Prop} {b:Nat} {s0 s:Sl} {c c':Ck} {L:List Lo} {i:Nat} {u:Value} (h:LS w O0 O b s0 s (some c) L W) (hc:(ckCells c s).setIfInBounds i u = ckCells c' s) (h1:c'.defs = c.defs) (h2:c'.subst = c.subst) (h3:c'.pieces = c.pieces) (h4:c'.values = c.values) (h5:c'.names = c.names) (hok:CkOk c') :
 LS w O0 O b s0 s (some c') L (W.setCell ⟨b,i,none⟩ u):=by
 obtain ⟨a1,a2,a3⟩:=h.ck c rfl
 refine ⟨fun c2 hc2=>by cases hc2; exact ⟨a1.put hc h1 h2 h3 h4 h5,hok,a3⟩,h.fr.setCell (h.new b a1.inB) i u,h.new,fun g hg=>by have:=h.tight g hg; simpa [World.setCell] using this,fun x hx=>⟨(h.loc x hx).1.other (fun e=>(h.loc x hx).1.off (by rw [e]; exact a1.inB)) i u,(h.loc x hx).2⟩,h.nd⟩
theorem storeI_step {o:Oper} {y:Nat -> Option Bool} {a:Act} {w:World} {K:Act -> World -> Prop} {Q:Exit -> Act -> World -> Prop} {p q g i:Nat} {u:Int} {u0:Value} (h1:o.op = .store 3 (.tmp p) (.tmp q)) (h2:o.dst = none) (h3:o.guard = none)
 (e1:a.tmps[p]?.getD undef = .pointer (some ⟨g,i,none⟩)) (e2:a.tmps[q]?.getD undef = I J u) (hc:w.cell? ⟨g,i,none⟩ = some u0) (hf:w.frozen? ⟨g,i,none⟩ = false)
 (h:∀ V,V = w.setCell ⟨g,i,none⟩ (I J u) -> K a V) :
 if Region.wanted o y = true then Oper.wp Tryz.prog o a w K Q else K (a.put o.dst undef) w:=by
 obtain ⟨dst,op,type,pos,after,guard⟩:=o
 simp only at h1 h2 h3
 subst h1 h2 h3
 have:=h _ rfl
 clear h
 go_simp
 exact this
theorem storeB_step {o:Oper} {y:Nat -> Option Bool} {a:Act} {w:World} {K:Act -> World -> Prop} {Q:Exit -> Act -> World -> Prop} {p g i:Nat} {t:Bool} {u0:Value} (h1:o.op = .store 4 (.tmp p) (.const (.bool t))) (h2:o.dst = none) (h3:o.guard = none)
 (e1:a.tmps[p]?.getD undef = .pointer (some ⟨g,i,none⟩)) (hc:w.cell? ⟨g,i,none⟩ = some u0) (hf:w.frozen? ⟨g,i,none⟩ = false)
 (h:∀ V,V = w.setCell ⟨g,i,none⟩ (.bool t) -> K a V) :
 if Region.wanted o y = true then Oper.wp Tryz.prog o a w K Q else K (a.put o.dst undef) w:=by
 obtain ⟨dst,op,type,pos,after,guard⟩:=o
 simp only at h1 h2 h3
 subst h1 h2 h3
 have:=h _ rfl
 clear h
 go_simp
 exact this
end Go.Proofs.YtbbbnopganhebabGreat
