/-
  Definitions that are handed in, opened.
-/
import Derived.Deep.Slices
import Derived.SizedLaws
import Derived.Test.YtlaodgdlkkmmeaaGreatG49
namespace Go.Proofs.YtlaodgdlkkmmeaaGreat
open Go.RowKit Go.Deep
open Go.Value renaming int->I
open Go.IntKind renaming i64->J
set_option maxRecDepth 20000
theorem df_cells:Tryz.prog.cellsOf 43 = 4:=by kernel_rfl
theorem df_int:Tryz.prog.cellsOf 3 = 1:=by kernel_rfl
theorem df_bytes:Tryz.prog.bytesOf 43 = 32:=by kernel_rfl
theorem df_wf {z:Int} (h:(Lit.int .i64 z).wf = true):InR z:=by
 unfold InR
 simp [Lit.wf,IntKind.min,IntKind.max,IntKind.signed,IntKind.bits] at h
 omega
def dfO (q:Int × Int × Int × Int):Df:=⟨q.1,q.2.1,q.2.2.1,q.2.2.2⟩
section
variable {H:Type} {enc:TypeId × Value -> H} {W:World} {base:Nat} {held:Bool}
theorem open_dfs {fuel:Nat} {cs:List Value} {x:DataW H × List MemPlace} (h:DataW.trod enc Tryz.prog W base (fun _=>true) held fuel 25 cs = some x) (hw:∀ n ∈ x.1.weights Tryz.prog 25,n <= reachBytes) :
 ∃ ao len cap l,cs = [.slice ao len cap] /\ len <= 4398046511104 /\ DfsAt W ao len l:=by
 rcases DataW.trod_slice Tryz.underlying25 h with ⟨rfl,_⟩ | ⟨a,len,cap,elems,rest,n,hn,rfl,rfl,hb,hl,hm,hlen,hel,hsp,_⟩
 ·exact ⟨none,0,0,[],rfl,Nat.zero_le _,DfsAt.nil _ _⟩
 ·have hwl:len <= 4398046511104:=by
   have:=hw ((elems.length + rest.length) * 32) (by simp [DataW.weights,Tryz.underlying25,df_bytes])
   unfold reachBytes at this
   omega
  have each:∀ i,i < len -> ∃ q:Int × Int × Int × Int,(W.cell? (a.add (i * 4)) = some (I J q.1) /\ W.cell? (a.add (i * 4 + 1)) = some (I J q.2.1) /\ W.cell? (a.add (i * 4 + 2)) = some (I J q.2.2.1) /\ W.cell? (a.add (i * 4 + 3)) = some (I J q.2.2.2)) /\ InR q.2.1:=by
   intro i hi
   have h1:=hel i hi
   have h2:elems[i]? = some elems[i]:=List.getElem?_eq_getElem (by omega)
   rw [h2,df_cells] at h1
   obtain ⟨cs',h3,h4⟩:=Option.bind_eq_some_iff.1 h1
   obtain ⟨_,hlen2,hcell⟩:=World.cells?_some h3
   obtain ⟨xs,k,hk,hxy,_,hxl,hf⟩:=DataW.trod_struct Tryz.underlying43 h4
   match cs',hlen2 with
   | [v0,v1,v2,v3],_=>
     have g0:=hf 0 _ rfl
     have g1:=hf 1 _ rfl
     have g2:=hf 2 _ rfl
     have g3:=hf 3 _ rfl
     match xs,hxl with
     | [y0,y1,y2,y3],_=>
       simp [df_int] at g0 g1 g2 g3
       obtain ⟨s0,e0,_,z0⟩:=DataW.trod_int Tryz.underlying3 g0
       obtain ⟨s1,e1,_,z1⟩:=DataW.trod_int Tryz.underlying3 g1
       obtain ⟨s2,e2,_,z2⟩:=DataW.trod_int Tryz.underlying3 g2
       obtain ⟨s3,e3,_,z3⟩:=DataW.trod_int Tryz.underlying3 g3
       simp at e0 e1 e2 e3
       subst e0; subst e1; subst e2; subst e3
       have k0:=hcell 0 (by omega)
       have k1:=hcell 1 (by omega)
       have k2:=hcell 2 (by omega)
       have k3:=hcell 3 (by omega)
       rw [Deep.add_add] at k0 k1 k2 k3
       have hz:InR s1:=df_wf z1
       exact ⟨(s0,s1,s2,s3),⟨by simpa using k0,by simpa using k1,by simpa using k2,by simpa using k3⟩,hz⟩
  obtain ⟨q,hq⟩:=Deep.choose_lt each
  refine ⟨some a,len,cap,(List.range len).map (fun i=>dfO (q i)),rfl,hwl,⟨by simp,by unfold maxLen; omega,fun d hd=>?_,fun h0=>?_⟩⟩
  ·obtain ⟨i,hi,rfl⟩:=List.mem_map.1 hd
   exact (hq i (by simpa using hi)).2
  obtain ⟨b,off,spot⟩:=a
  have hspot:spot = none:=by simpa [Addr.add] using World.cell?_spot (hq 0 h0).1.1
  subst hspot
  refine ⟨b,off,rfl,fun i p hi=>?_⟩
  have hil:i < len:=by
   have:=(List.getElem?_eq_some_iff.1 hi).1; simpa using this
  have hp:p = dfO (q i):=by
   rw [List.getElem?_map,List.getElem?_range hil] at hi
   simpa using hi.symm
  subst hp
  obtain ⟨⟨h1,h2,h3,h4⟩,_⟩:=hq i hil
  rw [Go.WideShapes.add_plain] at h1 h2 h3 h4
  simp only [Nat.add_assoc] at *
  exact ⟨h1,h2,h3,h4⟩
end
theorem dfs_in {H:Type} {enc:TypeId × Value -> H} {W:World} {ao:Option Addr} {len cap:Nat} {d:DataW H} {p:List MemPlace} (h:DataW.Trod enc Tryz.prog W 0 (fun _=>true) true 25 (.slice ao len cap) d p) (hw:∀ n ∈ d.weights Tryz.prog 25,n <= reachBytes) :
 ∃ l,len <= 4398046511104 /\ DfsAt W ao len l:=by
 obtain ⟨fuel,hf⟩:=h
 obtain ⟨ao',len',cap',l,e,h1,h2⟩:=open_dfs hf hw
 simp [Value.cells] at e
 obtain ⟨rfl,rfl,rfl⟩:=e
 exact ⟨l,h1,h2⟩
end Go.Proofs.YtlaodgdlkkmmeaaGreat
