/-
  The Kids of an expression are asked: where the loop stands. The Kids of an expression are asked: kids. An expression of others: where compound stands.
-/
import Derived.Deep.LoopGhost
import Derived.Test.YtlaodgdlkkmmeaaGreatCkQ
import Derived.Test.YtlaodgdlkkmmeaaGreatCkL2
import Derived.Test.YtlaodgdlkkmmeaaGreatG15
import Derived.Test.YtlaodgdlkkmmeaaGreatG00
namespace Go.Proofs.YtlaodgdlkkmmeaaGreat
open Go.RowKit Go.Deep Go.Maps
open Go.Value renaming int->I,string->Ψ,slice->Γ
open Go.IntKind renaming i64->J
open Go.Obj renaming cells->Δ
open Go.Ending renaming returned->Ω
def mnCells (m:Mn):List Value:=[.bool m.isText,Ψ (bs m.text),I J m.place,I J m.num]
def mnRow (l:List Mn):List Value:=l.flatMap mnCells
theorem mnRow_snoc (l:List Mn) (m:Mn):mnRow (l ++ [m]) = mnRow l ++ mnCells m:=by simp [mnRow]
theorem mn_len (m:Mn):(mnCells m).length = 4:=rfl
theorem mn_one (m:Mn):∀ u ∈ mnCells m,u.oneCell' = true:=by
 intro u hu
 simp [mnCells] at hu
 rcases hu with rfl | rfl | rfl | rfl <;> rfl
theorem mn_new (W:World) (t:Bool) (x:List UInt8) (p n:Int):∀ (i:Nat) (u:Value),(mnCells ⟨t,x,p,n⟩)[i]? = some u -> (W.alloc (Δ #[.bool t,Ψ (bs x),I J p,I J n] 109)).cell? ((⟨W.heap.size,0,none⟩:Addr).add i) = some u:=cells_new W (mnCells ⟨t,x,p,n⟩) 109
theorem info109:(Tryz.prog.info? 109).map (fun i=>(i.zero,i.size,i.bytes)) = some (some (.agg #[.bool false,Ψ ByteArray.empty,I J 0,I J 0]),4,40):=by kernel_rfl
theorem foAt_short {o:Bool} {S:Nat -> Prop} {w:World}:∀ {F:Fo} {ao:Option Addr} {n:Nat},FoAt o S w F ao n -> shortF F
 | .nil,_,_,_=>trivial
 | .node _ _ h k r,_,_,hh=>by
   obtain ⟨g,off,ka,kn,kc,m,_,_,_,_,hok,_,_,h1,h2⟩:=hh
   exact ⟨hok.text,foAt_short h1,foAt_short h2⟩
def KPost (O:Nat -> Prop) (b:Nat) (s:Sl) (w:World) (F:Fo) (r:Er (Ck × List Mn)) (e:Ending) (w':World):Prop:=
 match r with
 | .error f=>f.1 ≠ 0 /\ e = Ω (.tuple #[Γ none 0 0,flV f]) /\ Fr O w w'
 | .ok (c',ms)=>
   match txtAt F ms with
   | some p=>e = Ω (.tuple #[Γ none 0 0,flV (92,p)]) /\ Fr O w w'
   | none=>∃ mo mc O' s',e = Ω (.tuple #[Γ mo ms.length mc,flV (0,0)]) /\ Fr O w w' /\ s'.sv = s.sv /\ (∀ g,O' g -> O g \/ w.heap.size <= g) /\ CkAt O' b s' c' w' /\
    w'.ownsRow 0 109 4 (Γ mo ms.length mc) ms.length (mnRow ms) /\ ∀ g,(Value.slice mo ms.length mc).ownBlock = some g -> ¬ O' g /\ w.heap.size <= g
/-- Where the loop over the Kids stands. -/
structure KA (B:Nat) (w:World) (O:Nat -> Prop) (b:Nat) (s:Sl) (D:Er (Ck × List Mn)) (g off n N:Nat) (F':Fo) (c':Ck) (ms pd:List Mn) (O':Nat -> Prop) (s':Sl) (kv:Value) (wr:World):Prop where
 fo:FoAt false (fun g=>g < B) wr F' (some ⟨g,off + (ms.length + pd.length) * 5,none⟩) (n - (ms.length + pd.length))
 okf:okF F'
 sz:szF F' <= N
 acc:D = accF (ms ++ pd) (askF F' c')
 ck:CkAt O' b s' c' wr
 ok:CkOk c'
 sv:s'.sv = s.sv
 new:∀ g,O' g -> (O g /\ g < w.heap.size) \/ w.heap.size + 1 <= g
 fr:Fr O w wr
 res:wr.heap[w.heap.size]? = some (Δ #[I J 0,I J 0] 32 (0,0))
 row:wr.ownsRow 0 109 4 kv ms.length (mnRow ms)
 apart:∀ g,kv.ownBlock = some g -> w.heap.size + 1 <= g /\ ¬ O' g
 low:∀ g,O g -> B <= g
 base:B <= w.heap.size
section
variable {B:Nat} {w:World} {O:Nat -> Prop} {b:Nat} {s:Sl} {D:Er (Ck × List Mn)} {g off n N:Nat} {F':Fo} {c':Ck} {ms pd:List Mn} {O':Nat -> Prop} {s':Sl} {kv:Value} {wr wr':World}
theorem KA.next (h:KA B w O b s D g off n N F' c' ms pd O' s' kv wr) (hb:Below wr.heap.size wr wr'):KA B w O b s D g off n N F' c' ms pd O' s' kv wr':=
 ⟨h.fo.below hb,h.okf,h.sz,h.acc,h.ck.below hb,h.ok,h.sv,h.new,h.fr.then_below hb,by rw [hb.block _ (lt_block h.res)]; exact h.res,owned_below h.row hb,h.apart,h.low,h.base⟩
theorem KA.alloc (h:KA B w O b s D g off n N F' c' ms pd O' s' kv wr) (o:Obj):KA B w O b s D g off n N F' c' ms pd O' s' kv (wr.alloc o):=h.next ((Below.refl _ _).alloc (Nat.le_refl _) o)
theorem KA.lowO (h:KA B w O b s D g off n N F' c' ms pd O' s' kv wr):∀ g,O' g -> B <= g:=fun g hg=>by
 have hb:=h.base
 rcases h.new g hg with h1 | h1
 ·exact h.low g h1.1
 ·omega
theorem KA.size (h:KA B w O b s D g off n N F' c' ms pd O' s' kv wr):w.heap.size < wr.heap.size:=lt_block h.res
/-- An expression was asked: its meaning is at hand. -/
theorem KA.asked {b0 o0:Nat} {h1:Hd} {k1 r1:Fo} {c1:Ck} {m:Mn} {O2:Nat -> Prop} {s2:Sl} (h:KA B w O b s D g off n N (.node b0 o0 h1 k1 r1) c' ms [] O' s' kv wr) (hn:ms.length < n) (he:askE c' (h1,k1) = .ok (c1,m)) (hs:s2.sv = s'.sv)
 (hO:∀ g,O2 g -> O' g \/ wr.heap.size <= g) (hck:CkAt O2 b s2 c1 wr') (hfr:Fr O' wr wr'):KA B w O b s D g off n N r1 c1 ms [m] O2 s2 kv wr':=by
 have hsz:=h.size
 have hbl:∀ g,g < wr.heap.size -> g < B -> wr'.heap[g]? = wr.heap[g]?:=fun g hg hB=>hfr.block g hg (fun ho=>by have:=h.lowO g ho; omega)
 obtain ⟨b0',o0',hd,k,r,ka,kc,kk,e,-,hok,-,-,hk,hr⟩:=foAt_head h.fo (by simpa using hn)
 cases e
 have hof:=okF_node h.okf
 obtain ⟨q1,-,-⟩:=askE_ok h.ok hof.1 hok.text (foAt_short hk) he
 have hszr:szF r1 <= N:=by have:=h.sz; simp only [szF] at this; omega
 refine ⟨foAt_keep hbl (by simpa using hr),hof.2,hszr,?_,hck,q1,hs.trans h.sv,?_,?_,?_,?_,?_,h.low,h.base⟩
 ·rw [h.acc,List.append_nil,accF_step he]
 ·intro g hg
  rcases hO g hg with h2 | h2
  ·exact h.new g h2
  ·exact .inr (by omega)
 ·exact h.fr.trans hfr (fun g hg=>by rcases h.new g hg with h2 | h2; exact .inl h2.1; exact .inr (by omega))
 ·exact hfr.heap h.res (fun ho=>by rcases h.new _ ho with h2 | h2; exact absurd h2.2 (by omega); omega)
 ·exact owned_of_block h.row fun g _ hv hb=>hfr.block g (lt_block hb) (h.apart g hv).2
 ·intro g hv
  refine ⟨(h.apart g hv).1,fun ho=>?_⟩
  rcases hO g ho with h2 | h2
  ·exact (h.apart g hv).2 h2
  ·have:=(own_lt h.row hv).1; omega
theorem KA.app {m:Mn} {w5:World} {v':Value} (h:KA B w O b s D g off n N F' c' ms [m] O' s' kv wr) (hown:w5.ownsRow 0 109 4 v' (ms.length + 1) (mnRow ms ++ mnCells m)) (hg:wr.grownBy w5 kv.ownBlock) (hfr:∀ g,v'.ownBlock = some g -> some g = kv.ownBlock \/ wr.heap.size <= g) :
 KA B w O b s D g off n N F' c' (ms ++ [m]) [] (fun g=>O' g /\ g < wr.heap.size) s' v' w5:=by
 have hsz:=h.size
 have hkeep:∀ g,g < wr.heap.size -> (∀ k,kv.ownBlock = some k -> k ≠ g) -> w5.heap[g]? = wr.heap[g]?:=fun g hg2 hne=>hg.block g hg2 (fun e=>hne g e.symm rfl)
 refine ⟨?_,h.okf,h.sz,by rw [h.acc,List.append_nil],?_,h.ok,h.sv,fun g hg=>h.new g hg.1,?_,?_,?_,?_,h.low,h.base⟩
 ·have:=foAt_keep (w':=w5) (fun g hg2 hB=>hkeep g hg2 (fun k hk e=>by have:=(h.apart k hk).1; have:=h.base; omega)) h.fo
  simpa using this
 ·exact h.ck.tight.keep fun g hg2 ho=>hkeep g hg2 (fun k hk e=>(h.apart k hk).2 (e ▸ ho.1))
 ·exact h.fr.grown hg (fun k hk=>.inr (by have:=(h.apart k hk).1; omega))
 ·rw [hkeep _ (by omega) (fun k hk e=>by have:=(h.apart k hk).1; omega)]; exact h.res
 ·rw [mnRow_snoc,List.length_append]; exact hown
 ·intro g hv
  rcases hfr g hv with h1 | h1
  ·exact ⟨(h.apart g h1.symm).1,fun ho=>(h.apart g h1.symm).2 ho.1⟩
  ·exact ⟨by omega,fun ho=>by have:=ho.2; omega⟩
theorem KA.start {F:Fo} {c:Ck} {cap:Nat} (hck:CkAt O b s c w) (hok:CkOk c) (hlow:∀ g,O g -> B <= g) (hB:B <= w.heap.size) (hF:FoAt false (fun g=>g < B) w F (some ⟨g,off,none⟩) n) (hof:okF F) (hsz:szF F <= N) {w2:World}
 (hg:(w.alloc (Δ #[I J 0,I J 0] 32)).grownBy w2 none) (hr:w2.ownsRow (w.heap.size + 1) 109 4 (Γ (some ⟨w.heap.size + 1,0,none⟩) 0 cap) 0 []) :
 KA B w O b s (askF F c) g off n N F c [] [] (fun g=>O g /\ g < w.heap.size) s (Γ (some ⟨w.heap.size + 1,0,none⟩) 0 cap) w2:=by
 have hb1:Below w.heap.size w (w.alloc (Δ #[I J 0,I J 0] 32)):=(Below.refl _ _).alloc (Nat.le_refl _) _
 have hb2:Below (w.alloc (Δ #[I J 0,I J 0] 32)).heap.size (w.alloc (Δ #[I J 0,I J 0] 32)) w2:=(Below.refl _ _).grown hg (Nat.le_refl _) (fun k hk=>by cases hk)
 have hb:Below w.heap.size w w2:=hb1.trans (hb2.mono (by simp))
 refine ⟨by simpa using hF.below hb,hof,hsz,by rw [List.append_nil,accF_nil],hck.tight.below hb,hok,rfl,fun g hg=>.inl hg,Fr.of_below hb,?_,owned_base hr (Nat.zero_le _),?_,hlow,hB⟩
 ·rw [hb2.block _ (by simp)]; exact heap_alloc_new w _
 ·intro g hv
  simp [Value.ownBlock] at hv
  subst hv
  exact ⟨Nat.le_refl _,fun ho=>by have:=ho.2; omega⟩
end
open Go.Value renaming int->I,pointer->Φ,string->Ψ,slice->Γ
set_option maxRecDepth 20000
set_option maxHeartbeats 4000000
/-- Expressions whose Kids are fewer than so many are asked. -/
def XIH (N:Nat):Prop:=∀ (B:Nat) (O:Nat -> Prop) (b:Nat) (s:Sl) (c:Ck) (h:Hd) (k:Fo) (ka:Option Addr) (kn kc:Nat) (w:World),CkAt O b s c w -> CkOk c -> (∀ g,O g -> B <= g) -> B <= w.heap.size ->
 ExAt false (fun g=>g < B) w (h,k) ka kn -> okE h k -> szF k < N -> Calls Tryz.prog 88 #[Φ (some ⟨b,0,none⟩),exV h ka kn kc] w (XPost O b s w (askE c (h,k)))
theorem calls_err {O:Nat -> Prop} {b:Nat} {s:Sl} {w:World} {K:Nat} {args:Array Value} {r:Er (Ck × Mn)} {f:Int × Int} (h:Calls Tryz.prog K args w (XPost O b s w r)) (hr:r = .error f) :
 Calls Tryz.prog K args w fun e w'=>f.1 ≠ 0 /\ e = Ω (.tuple #[.agg #[.bool false,Ψ ⟨#[]⟩,I J 0,I J 0],.agg #[I J f.1,I J f.2]]) /\ Fr O w w':=by
 subst hr; exact h
theorem calls_okm {O:Nat -> Prop} {b:Nat} {s:Sl} {w:World} {K:Nat} {args:Array Value} {r:Er (Ck × Mn)} {c':Ck} {m:Mn} (h:Calls Tryz.prog K args w (XPost O b s w r)) (hr:r = .ok (c',m)) :
 Calls Tryz.prog K args w fun e w'=>e = Ω (.tuple #[.agg #[.bool m.isText,Ψ (bs m.text),I J m.place,I J m.num],.agg #[I J 0,I J 0]]) /\ Fr O w w' /\ ∃ O' s',s'.sv = s.sv /\ (∀ g,O' g -> O g \/ w.heap.size <= g) /\ CkAt O' b s' c' w':=by
 subst hr; exact h
theorem kidsC_calls (N:Nat) (IH:XIH N) {B:Nat} {O:Nat -> Prop} {b:Nat} {s:Sl} {c:Ck} (F:Fo) (ao:Option Addr) (n cc:Nat) (w:World) (h:CkAt O b s c w) (hok:CkOk c) (hlow:∀ g,O g -> B <= g) (hB:B <= w.heap.size)
 (hF:FoAt false (fun g=>g < B) w F ao n) (hof:okF F) (hsz:szF F <= N) (hn0:0 < n) (hn8:n <= 8) :
 Calls Tryz.prog 142 #[Φ (some ⟨b,0,none⟩),Γ ao n cc] w (KPost O b s w F (askF F c)):=by
 have hres:Tryz.f142.results = #[.tmp 4,.cell 5 32]:=by kernel_rfl
 obtain ⟨g,off,hka,hF'⟩:=foAt_addr hF
 have hka2:=hka hn0
 subst hka2
 simp only [Nat.zero_mul,Nat.add_zero,Nat.sub_zero] at hF'
 have HIH:Hid (XIH N):=IH
 have HST:Hid (∀ w2,(w.alloc (Δ #[I J 0,I J 0] 32)).grownBy w2 none -> w2.ownsRow (w.heap.size + 1) 109 4 (Γ (some ⟨w.heap.size + 1,0,none⟩) 0 n) 0 [] ->
  KA B w O b s (askF F c) g off n N F c [] [] (fun g=>O g /\ g < w.heap.size) s (Γ (some ⟨w.heap.size + 1,0,none⟩) 0 n) w2):=fun w2 hg hr=>KA.start h hok hlow hB hF' hof hsz hg hr
 have HF0:Hid (FoAt false (fun g=>g < B) w F (some ⟨g,off,none⟩) n /\ (∀ g,O g -> B <= g) /\ B <= w.heap.size):=⟨hF',hlow,hB⟩
 obtain ⟨D,hD⟩:∃ D,D = askF F c:=⟨_,rfl⟩
 rw [<- hD]
 have HD:Hid (D = askF F c):=hD
 rw [<- hD] at HST
 clear IH h hok hlow hB hF hF' hof hsz hka hD
 obtain ⟨i0,hi,hz0,hz1,hz2⟩:=info_parts info109
 go_enter Tryz.func142,Tryz.ntmps142
 go_wp2_with (at_make; refine wpList_make_own _ rfl _ _ 173 rfl (w.heap.size + 1) 109 i0 _ 4 Tryz.underlying173 hi hz0 hz1 .i64 .i64 _ n rfl rfl rfl (by rw [hz2]; omega) (by unfold maxLen; omega) (by simp) ?_; intro w2 hr hg; rw [show (w.alloc (Δ #[I J 0,I J 0] 32)).heap.size = w.heap.size + 1 by simp] at hr; have HK0:=HST.out _ hg hr; clear hr hg HST)
 have HK:=hid HK0
 clear HK0 hi hz0 hz1 hz2 i0
 go_loopg [18,6] n (fun k iv kv wr=>∃ (F':Fo) (c':Ck) (ms:List Mn) (O':Nat -> Prop) (s':Sl) (mo:Option Addr) (mc i:Nat),iv = I J (i:Int) /\ kv = Γ mo i mc /\ i + k = n /\ Hid (KA B w O b s D g off n N F' c' ms [] O' s' (Γ mo i mc) wr /\ ms.length = i))
 case atStart=>exact ⟨F,c,[],_,s,_,n,0,rfl,rfl,by omega,HK.out,rfl⟩
 case round=>
  clear HK
  obtain ⟨F',c',ms,O',s',mo,mc,i,rfl,rfl,hik,HT⟩:=hrel
  by_cases hi:i < n
  ·obtain ⟨b1,o1,h1,k1,r1,ka1,kc1,kk1,rfl,-,hok1,hkc1,⟨c0,c1,c2,c3,c4⟩,hk1,hr1⟩:=foAt_head (i:=i) (by have:=HT.out.1.fo; simp only [List.length_nil,Nat.add_zero,HT.out.2] at this; exact this) hi
   have HC0:∀ o,Calls Tryz.prog 88 #[Φ (some ⟨b,0,none⟩),.agg #[I J h1.kind,I J h1.num,Ψ (bs h1.text),Γ ka1 kc1 kk1,I J h1.pl]] (wr.alloc o) (XPost O' b s' (wr.alloc o) (askE c' (h1,k1))):=fun o=>by
    have hA:=HT.out.1.alloc o
    have hsz:=hA.size
    exact HIH.out B O' b s' c' h1 k1 ka1 kc1 kk1 (wr.alloc o) hA.ck hA.ok hA.lowO (by have:=hA.base; omega) ⟨hok1,hkc1,hk1.below ((Below.refl _ _).alloc (Nat.le_refl _) o)⟩ (okF_node hA.okf).1 (by have:=hA.sz; simp only [szF] at this; omega)
   cases hx:askE c' (h1,k1) with
   | error f=>
     have HC:Hid (∀ o,Calls Tryz.prog 88 #[Φ (some ⟨b,0,none⟩),.agg #[I J h1.kind,I J h1.num,Ψ (bs h1.text),Γ ka1 kc1 kk1,I J h1.pl]] (wr.alloc o) fun e w'=>f.1 ≠ 0 /\ e = Ω (.tuple #[.agg #[.bool false,Ψ ⟨#[]⟩,I J 0,I J 0],.agg #[I J f.1,I J f.2]]) /\ Fr O' (wr.alloc o) w'):=fun o=>calls_err (HC0 o) hx
     have HDf:Hid (D = .error f):=by
      show D = _
      rw [HT.out.1.acc]; exact accF_err hx
     clear hx hk1 hr1 hok1 hkc1 HC0 HIH
     generalize hf1:f.1 = f1 at *
     generalize hf2:f.2 = f2 at *
     have HFF:Hid (f = (f1,f2)):=by show f = _; rw [<- hf1,<- hf2]
     clear hf1 hf2
     go_wp2_with fail
     refine (HC.out _).mono ?_
     rintro e w3 ⟨hf0,rfl,hfr3⟩
     have hq:(f1 == 0) = false:=by rw [beq_eq_false_iff_ne]; exact hf0
     have HW:Hid (Fr O w w3 /\ w3.heap[w.heap.size]? = some (Δ #[I J 0,I J 0] 32 (0,0))):=by
      have hA:=HT.out.1.alloc (Δ #[I J h1.kind,I J h1.num,Ψ (bs h1.text),Γ ka1 kc1 kk1,I J h1.pl] 102)
      refine ⟨hA.fr.trans hfr3 (fun g hg=>by rcases hA.new g hg with h2 | h2; exact .inl h2.1; exact .inr (by omega)),hfr3.heap hA.res (fun ho=>by rcases hA.new _ ho with h2 | h2; exact absurd h2.2 (by omega); omega)⟩
     have HF0:Hid (f1 ≠ 0):=hf0
     have hlt:=lt_block HW.out.2
     have hne:¬ w.heap.size = w3.heap.size:=by omega
     have hne2:¬ w.heap.size = w3.heap.size + 1:=by omega
     have z0:w3.cell? ⟨w.heap.size,0,none⟩ = some (I J 0):=blk HW.out.2 rfl
     have z1:w3.cell? ⟨w.heap.size,1,none⟩ = some (I J 0):=blk HW.out.2 rfl
     have zf:∀ i,w3.frozen? ⟨w.heap.size,i,none⟩ = false:=fun i=>blkf i HW.out.2
     clear hf0 hfr3 HT HC c0 c1 c2 c3 c4
     go_wp2_with fail
     go_region
     go_wp2
     refine bodyPost_ret (v:=.tuple #[Γ none 0 0,.agg #[I J f1,I J f2]]) ?_ rfl ?_
     ·simp only [results,hres]
      go_simp
     ·show KPost O b s w F D _ _
      rw [HDf.out,HFF.out]
      exact ⟨HF0.out,rfl,(((((HW.out.1.setCell (.inr (Nat.le_refl _)) _ _).setCell (.inr (Nat.le_refl _)) _ _).alloc _).alloc _).drew)⟩
   | ok x=>
     obtain ⟨c1',m⟩:=x
     have HC:Hid (∀ o,Calls Tryz.prog 88 #[Φ (some ⟨b,0,none⟩),.agg #[I J h1.kind,I J h1.num,Ψ (bs h1.text),Γ ka1 kc1 kk1,I J h1.pl]] (wr.alloc o) fun e w'=>e = Ω (.tuple #[.agg #[.bool m.isText,Ψ (bs m.text),I J m.place,I J m.num],.agg #[I J 0,I J 0]]) /\ Fr O' (wr.alloc o) w' /\ ∃ O2 s2,s2.sv = s'.sv /\ (∀ g,O2 g -> O' g \/ (wr.alloc o).heap.size <= g) /\ CkAt O2 b s2 c1' w'):=fun o=>calls_okm (HC0 o) hx
     have HX:Hid (askE c' (h1,k1) = .ok (c1',m)):=hx
     clear hx hk1 hr1 hok1 hkc1 HC0
     obtain ⟨mt,mx,mp,mn⟩:=m
     simp only at HC
     generalize hbx:bs mx = bx at *
     have HBX:Hid (bs mx = bx):=hbx
     clear hbx
     go_wp2_with fail
     refine (HC.out _).mono ?_
     rintro e w3 ⟨rfl,hfr3,O2,s2,hs2,hO2,hck2⟩
     have HT3:Hid (KA B w O b s D g off n N r1 c1' ms [⟨mt,mx,mp,mn⟩] O2 s2 (Γ mo i mc) w3):=
      (HT.out.1.alloc _).asked (by rw [HT.out.2]; exact hi) HX.out hs2 hO2 hck2 hfr3
     have HLn:Hid (ms.length = i):=HT.out.2
     clear hfr3 hs2 hO2 hck2 HX HC HT c0 c1 c2 c3 c4
     obtain ⟨i0,hi0,hz0,hz1,hz2⟩:=info_parts info109
     have HJO:Hid (∀ o1 o2 o3,(((w3.alloc o1).alloc o2).alloc o3).ownsRow 0 109 4 (Γ mo i mc) i (mnRow ms)):=fun o1 o2 o3=>by
      have:=(((HT3.out.alloc o1).alloc o2).alloc o3).row
      rw [HLn.out] at this; exact this
     have HJE:Hid (∀ o1 o2 o3 v' w5,w5.ownsRow 0 109 4 v' (i + 1) (mnRow ms ++ mnCells ⟨mt,mx,mp,mn⟩) -> (((w3.alloc o1).alloc o2).alloc o3).grownBy w5 (Value.slice mo i mc).ownBlock -> (∀ g,v'.ownBlock = some g -> some g = (Value.slice mo i mc).ownBlock \/ (((w3.alloc o1).alloc o2).alloc o3).heap.size <= g) ->
      Hid (∃ O3,KA B w O b s D g off n N r1 c1' (ms ++ [⟨mt,mx,mp,mn⟩]) [] O3 s2 v' w5)):=fun o1 o2 o3 v' w5 ho hg hfr=>by
      have hA:=((HT3.out.alloc o1).alloc o2).alloc o3
      rw [<- HLn.out] at ho
      exact ⟨_,hA.app ho hg hfr⟩
     have hnew:Hid (∀ o1 o2 (j:Nat) (u:Value),(mnCells ⟨mt,mx,mp,mn⟩)[j]? = some u -> (((w3.alloc o1).alloc o2).alloc (Δ #[.bool mt,Ψ bx,I J mp,I J mn] 109)).cell? ((⟨w3.heap.size + 1 + 1,0,none⟩:Addr).add j) = some u):=fun o1 o2=>by
      have:=mn_new ((w3.alloc o1).alloc o2) mt mx mp mn
      rw [HBX.out,show ((w3.alloc o1).alloc o2).heap.size = w3.heap.size + 1 + 1 by simp] at this; exact this
     clear HT3
     go_wp2_with (first
      | (at_builtin; refine wpList_append_fresh rfl (.tmp 32) (.tmp 34) 173 rfl 0 109 i0 _ 4 40 Tryz.underlying173 hi0 hz0 hz1 hz2 rfl (by decide) _ _ _ rfl (HJO.out _ _ _) ⟨w3.heap.size + 1 + 1,0,none⟩ 1 1 (mnCells ⟨mt,mx,mp,mn⟩) rfl rfl (hnew.out _ _) (mn_one _) (by unfold maxLen; omega) (by omega) (Nat.zero_le _) ?_
         intro v' w5 ho hg hfr
         have HK5:=HJE.out _ _ _ _ _ ho hg hfr
         obtain ⟨ao3,cap3,rfl⟩:=owned_shape ho
         clear ho hg hfr HJE HJO hnew))
     go_roundg (gk - 1)
     case measure=>omega
     case rel=>
      obtain ⟨O3,hK5⟩:=HK5.out
      exact ⟨r1,c1',ms ++ [⟨mt,mx,mp,mn⟩],O3,s2,ao3,cap3,i + 1,by go_num,rfl,by omega,hK5,by simp [HLn.out]⟩
  ·have hin:i = n:=by omega
   obtain ⟨wa,hwa⟩:∃ wa,wa = wr:=⟨_,rfl⟩
   subst hwa
   have HE:Hid (D = .ok (c',ms)):=by
    show D = _
    have h1:=HT.out.1.fo
    simp only [List.length_nil,Nat.add_zero,HT.out.2,hin,Nat.sub_self] at h1
    rw [HT.out.1.acc,foAt_end h1]
    simp [askF,accF]
   have hmn:ms.length = n:=by rw [HT.out.2]; exact hin
   have HM:Hid (ms.length = n):=hmn
   subst hin
   obtain ⟨gm,mcap,hmo,-,-,-,hgm⟩:=owned_some HT.out.1.row (by omega)
   rw [hmn] at hmo
   cases hmo
   have HW:Hid (KA B w O b s D g off i N F' c' ms [] O' s' (Γ (some ⟨gm,0,none⟩) i mc) wa /\ FoAt false (fun g=>g < B) wa F (some ⟨g,off + 0 * 5,none⟩) (i - 0)):=by
    refine ⟨HT.out.1,?_⟩
    simp only [Nat.zero_mul,Nat.add_zero,Nat.sub_zero]
    exact foAt_keep (fun q hq hqB=>HT.out.1.fr.block q hq (fun ho=>by have:=HF0.out.2.1 q ho; omega)) HF0.out.1
   obtain ⟨T,hT⟩:∃ T,T = txtAt F ms:=⟨_,rfl⟩
   have HTT:Hid (T = txtAt F ms):=hT
   clear hT HT HIH hmn
   have hii:¬ i < i:=by omega
   go_wp2_with fail
   go_loopg [39] i (fun k iv wr=>∃ (F2:Fo) (ms2:List Mn) (j:Nat),iv = I J (j:Int) /\ j + k = i /\ Hid (FoAt false (fun g=>g < B) wr F2 (some ⟨g,off + j * 5,none⟩) (i - j) /\ ms.drop j = ms2 /\ T = txtAt F2 ms2 /\ Below wa.heap.size wa wr))
   case atStart=>exact ⟨F,ms,0,rfl,by omega,HW.out.2,rfl,HTT.out,Below.refl _ _⟩
   case round=>
    obtain ⟨F2,ms2,j,rfl,hjk,HL⟩:=hrel
    have HKq:Hid (KA B w O b s D g off i N F' c' ms [] O' s' (Γ (some ⟨gm,0,none⟩) i mc) wr):=HW.out.1.next HL.out.2.2.2
    by_cases hj:j < i
    ·obtain ⟨b1,o1,h1,k1,r1,ka1,kc1,kk1,rfl,hgB,-,-,⟨-,-,-,-,c4⟩,-,hr1⟩:=foAt_head HL.out.1 hj
     obtain ⟨m,ms3,hms⟩:∃ m ms3,ms2 = m :: ms3:=by
      cases hm:ms2 with
      | nil=>
        have h2:=HL.out.2.1
        rw [hm] at h2
        have h3:=congrArg List.length h2
        simp [HM.out] at h3
        omega
      | cons m r=>exact ⟨m,r,rfl⟩
     subst hms
     have hmj:ms[j]? = some m:=by
      have:=congrArg (·[0]?) HL.out.2.1
      simpa using this
     have hrow:∀ q u,(mnCells m)[q]? = some u -> wr.cell? ⟨gm,j * 4 + q,none⟩ = some u:=fun q u hu=>by
      have hr:=HKq.out.row
      rw [HM.out] at hr
      exact (owned_cells hr _ _ (flat_get mn_len ms j m q u hmj hu)).1
     have x0:wr.cell? ⟨gm,j * 4,none⟩ = some (.bool m.isText):=hrow 0 _ rfl
     have x1:=hrow 1 _ rfl
     have x2:=hrow 2 _ rfl
     have x3:=hrow 3 _ rfl
     have hgq:gm < wr.heap.size:=World.block_lt_of_cell? wr _ x0
     have hgl:g < wr.heap.size:=World.block_lt_of_cell? wr _ c4
     have hlt:=HKq.out.size
     clear hrow
     have hgB':g < B:=hgB
     have hgw:g ≠ w.heap.size:=by have:=HF0.out.2.2; omega
     clear hgB
     obtain ⟨mt,mx,mp,mn⟩:=m
     simp only at x0 x1 x2 x3
     generalize bs mx = bx at *
     cases mt with
     | true=>
       have HTx:Hid (T = some h1.pl):=by
        show T = _
        rw [HL.out.2.2.1]; simp [txtAt]
       have z0:wr.cell? ⟨w.heap.size,0,none⟩ = some (I J 0):=blk HKq.out.res rfl
       have z1:wr.cell? ⟨w.heap.size,1,none⟩ = some (I J 0):=blk HKq.out.res rfl
       have zf:∀ i,wr.frozen? ⟨w.heap.size,i,none⟩ = false:=fun i=>blkf i HKq.out.res
       have hne:¬ w.heap.size = wr.heap.size:=by omega
       generalize h1.pl = pl at *
       clear HL hr1
       go_wp2_with fail
       have HCa:Hid (∀ o,(wr.alloc o).drew.cell? ⟨g,off + j * 5 + 4,none⟩ = some (I J pl)):=fun o=>by
        have:=World.cell?_of_block (w:=wr) (w':=(wr.alloc o).drew) (a:=⟨g,off + j * 5 + 4,none⟩) (Below.heap_alloc wr o g hgl)
        rw [this]; exact c4
       have HCb:Hid (∀ o u v,(((wr.setCell ⟨w.heap.size,0,none⟩ u).setCell ⟨w.heap.size,1,none⟩ v).alloc o).drew.cell? ⟨g,off + j * 5 + 4,none⟩ = some (I J pl)):=fun o u v=>by
        have h1:((((wr.setCell ⟨w.heap.size,0,none⟩ u).setCell ⟨w.heap.size,1,none⟩ v).alloc o).drew).heap[g]? = wr.heap[g]?:=by
         show ((((wr.setCell ⟨w.heap.size,0,none⟩ u).setCell ⟨w.heap.size,1,none⟩ v).alloc o)).heap[g]? = _
         rw [Below.heap_alloc _ o g (by simpa [World.setCell] using hgl)]
         exact heap_other (heap_other rfl hgw) hgw
        rw [World.cell?_of_block (w:=wr) (a:=⟨g,off + j * 5 + 4,none⟩) h1]; exact c4
       go_region_held3 (fun W=>W.cell? ⟨g,off + j * 5 + 4,none⟩ = some (I J pl)) (first | with_reducible exact HCa.out _ | with_reducible exact HCb.out _ _ _) (fail)
       rename_i hh
       clear hh HCa HCb
       go_wp2
       refine bodyPost_ret (v:=.tuple #[Γ none 0 0,.agg #[I J 92,I J pl]]) ?_ rfl ?_
       ·simp only [results,hres]
        go_simp
       ·show KPost O b s w F D _ _
        rw [HE.out]
        unfold KPost
        simp only
        rw [<- HTT.out,HTx.out]
        exact ⟨rfl,(((HKq.out.fr.setCell (.inr (Nat.le_refl _)) _ _).setCell (.inr (Nat.le_refl _)) _ _).alloc _).drew⟩
     | false=>
       have HX:Hid (FoAt false (fun g=>g < B) wr r1 (some ⟨g,off + (j + 1) * 5,none⟩) (i - (j + 1)) /\ ms.drop (j + 1) = ms3 /\ T = txtAt r1 ms3 /\ Below wa.heap.size wa wr):=by
        refine ⟨hr1,?_,?_,HL.out.2.2.2⟩
        ·rw [<- List.drop_drop,HL.out.2.1]; rfl
        ·rw [HL.out.2.2.1]; simp [txtAt]
       clear HL hr1 HKq
       go_wp2_with fail
       go_roundg (gk - 1)
       case measure=>omega
       case rel=>
        have hb:Below wr.heap.size wr _:=(Below.refl wr.heap.size wr).alloc (Nat.le_refl _) (Δ #[.bool false,Ψ bx,I J mp,I J mn] 109)
        exact ⟨r1,ms3,j + 1,by go_num,by omega,HX.out.1.below hb,HX.out.2.1,HX.out.2.2.1,HX.out.2.2.2.trans (hb.mono HX.out.2.2.2.size)⟩
    ·have hms2:ms2 = []:=by
      rw [<- HL.out.2.1]
      exact List.drop_eq_nil_of_le (by rw [HM.out]; omega)
     have HTx:Hid (T = none):=by
      show T = none
      rw [HL.out.2.2.1,hms2]
      cases F2 <;> rfl
     have z0:wr.cell? ⟨w.heap.size,0,none⟩ = some (I J 0):=blk HKq.out.res rfl
     have z1:wr.cell? ⟨w.heap.size,1,none⟩ = some (I J 0):=blk HKq.out.res rfl
     have zf:∀ i,wr.frozen? ⟨w.heap.size,i,none⟩ = false:=fun i=>blkf i HKq.out.res
     clear HL hms2
     go_wp2
     refine bodyPost_ret (v:=.tuple #[Γ (some ⟨gm,0,none⟩) i mc,.agg #[I J 0,I J 0]]) ?_ rfl ?_
     ·simp only [results,hres]
      go_simp
     ·show KPost O b s w F D _ _
      rw [HE.out]
      unfold KPost
      simp only
      rw [<- HTT.out,HTx.out]
      simp only
      rw [HM.out]
      have hK:=HKq.out
      refine ⟨_,_,O',s',rfl,(hK.fr.setCell (.inr (Nat.le_refl _)) _ _).setCell (.inr (Nat.le_refl _)) _ _,hK.sv,fun q hq=>?_,?_,?_,?_⟩
      ·rcases hK.new q hq with h2 | h2
       ·exact .inl h2.1
       ·exact .inr (by omega)
      ·refine hK.ck.keep fun q hq ho=>?_
       have hne:q ≠ w.heap.size:=fun e=>by
        subst e
        rcases hK.new _ ho with h2 | h2
        ·exact absurd h2.2 (by omega)
        ·omega
       exact heap_other (heap_other rfl hne) hne
      ·have hr:=hK.row
       rw [HM.out] at hr
       exact owned_setOther (owned_setOther hr hK.res (by decide) _) (heap_put hK.res rfl) (by decide) _
      ·intro q hq
       exact ⟨(hK.apart q hq).2,by have:=(hK.apart q hq).1; omega⟩
open Go.Value renaming int->I,string->Ψ
/-- A block of the call's own, beside the checker's. -/
structure Lc (O:Nat -> Prop) (W:World) (g:Nat) (cs:List Value) (ty:TypeId):Prop where
 heap:W.heap[g]? = some (Δ cs.toArray ty (0,0))
 off:¬ O g
theorem Lc.next {O:Nat -> Prop} {W W':World} {g:Nat} {cs:List Value} {ty:TypeId} (h:Lc O W g cs ty) (hb:Below W.heap.size W W'):Lc O W' g cs ty:=⟨by rw [hb.block _ (lt_block h.heap)]; exact h.heap,h.off⟩
theorem Lc.lt {O:Nat -> Prop} {W:World} {g:Nat} {cs:List Value} {ty:TypeId} (h:Lc O W g cs ty):g < W.heap.size:=lt_block h.heap
theorem Lc.fr {O O':Nat -> Prop} {W W':World} {g:Nat} {cs:List Value} {ty:TypeId} (h:Lc O W g cs ty) (hf:Fr O W W') (hO:∀ g,O' g -> O g \/ W.heap.size <= g):Lc O' W' g cs ty:=
 ⟨hf.heap h.heap h.off,fun ho=>by rcases hO g ho with h1 | h1; exact h.off h1; have:=h.lt; omega⟩
theorem Lc.cell {O:Nat -> Prop} {W:World} {g:Nat} {cs:List Value} {ty:TypeId} (h:Lc O W g cs ty) {i:Nat} {u:Value} (hi:cs[i]? = some u):W.cell? ⟨g,i,none⟩ = some u:=blk h.heap (by simpa using hi)
theorem Lc.fz {O:Nat -> Prop} {W:World} {g:Nat} {cs:List Value} {ty:TypeId} (h:Lc O W g cs ty) (i:Nat):W.frozen? ⟨g,i,none⟩ = false:=blkf i h.heap
theorem Lc.other {O:Nat -> Prop} {W:World} {g k:Nat} {cs:List Value} {ty:TypeId} (h:Lc O W g cs ty) (hk:g ≠ k) (i:Nat) (u:Value):Lc O (W.setCell ⟨k,i,none⟩ u) g cs ty:=⟨heap_other h.heap hk,h.off⟩
theorem Lc.put {O:Nat -> Prop} {W:World} {g:Nat} {cs:List Value} {ty:TypeId} (h:Lc O W g cs ty) (i:Nat) (u:Value):Lc O (W.setCell ⟨g,i,none⟩ u) g (cs.set i u) ty:=⟨heap_put h.heap (by simp),h.off⟩
theorem Lc.drew {O:Nat -> Prop} {W:World} {g:Nat} {cs:List Value} {ty:TypeId} (h:Lc O W g cs ty):Lc O W.drew g cs ty:=h.next (Below.refl _ _).drew
theorem Lc.alloc {O:Nat -> Prop} {W:World} {g:Nat} {cs:List Value} {ty:TypeId} (h:Lc O W g cs ty) (o:Obj):Lc O (W.alloc o) g cs ty:=h.next ((Below.refl _ _).alloc (Nat.le_refl _) o)
theorem Lc.new {O:Nat -> Prop} {W:World} {cs:List Value} {ty:TypeId} (h:¬ O W.heap.size):Lc O (W.alloc (Δ cs.toArray ty)) W.heap.size cs ty:=⟨heap_alloc_new W _,h⟩
theorem ck_set {O:Nat -> Prop} {b:Nat} {s:Sl} {c:Ck} {W:World} (h:CkAt O b s c W) {g:Nat} (hg:¬ O g) (i:Nat) (u:Value):CkAt O b s c (W.setCell ⟨g,i,none⟩ u):=
 h.keep fun _ _ ho=>heap_other rfl (fun e=>hg (e ▸ ho))
def mnL (m:Mn):List Value:=[.bool m.isText,Ψ (bs m.text),I J m.place,I J m.num]
def flL (f:Int × Int):List Value:=[I J f.1,I J f.2]
def exL (h:Hd) (ka:Option Addr) (kn kc:Nat):List Value:=[I J h.kind,I J h.num,Ψ (bs h.text),.slice ka kn kc,I J h.pl]
/-- Where a call stands that has an expression in its box, and two results. -/
structure CA (w:World) (O0 O:Nat -> Prop) (b:Nat) (s0 s:Sl) (c:Ck) (h:Hd) (ka:Option Addr) (kn kc:Nat) (W:World):Prop where
 ck:CkAt O b s c W
 ok:CkOk c
 sv:s.sv = s0.sv
 fr:Fr O0 w W
 box:Lc O W w.heap.size (exL h ka kn kc) 102
 r1:Lc O W (w.heap.size + 1) (mnL mn0) 109
 r2:Lc O W (w.heap.size + 1 + 1) (flL (0,0)) 32
 new:∀ g,O g -> O0 g \/ w.heap.size <= g
section
variable {w W W':World} {O0 O O':Nat -> Prop} {b:Nat} {s0 s s':Sl} {c c':Ck} {h:Hd} {ka:Option Addr} {kn kc:Nat}
theorem CA.next (a:CA w O0 O b s0 s c h ka kn kc W) (hb:Below W.heap.size W W'):CA w O0 O b s0 s c h ka kn kc W':=
 ⟨a.ck.below hb,a.ok,a.sv,a.fr.then_below hb,a.box.next hb,a.r1.next hb,a.r2.next hb,a.new⟩
theorem CA.go (a:CA w O0 O b s0 s c h ka kn kc W) (hf:Fr O W W') (hO:∀ g,O' g -> O g \/ W.heap.size <= g) (hs:s'.sv = s.sv) (hck:CkAt O' b s' c' W') (hok:CkOk c'):CA w O0 O' b s0 s' c' h ka kn kc W':=by
 have hsz:=a.fr.size
 exact ⟨hck,hok,hs.trans a.sv,a.fr.trans hf a.new,a.box.fr hf hO,a.r1.fr hf hO,a.r2.fr hf hO,fun g hg=>by rcases hO g hg with h1 | h1; exact a.new g h1; exact .inr (by omega)⟩
theorem CA.set (a:CA w O0 O b s0 s c h ka kn kc W) {g:Nat} (hg:¬ O g) (h0:w.heap.size + 1 + 1 < g) (i:Nat) (u:Value):CA w O0 O b s0 s c h ka kn kc (W.setCell ⟨g,i,none⟩ u):=
 ⟨ck_set a.ck hg i u,a.ok,a.sv,a.fr.setCell (.inr (by omega)) i u,a.box.other (by omega) i u,a.r1.other (by omega) i u,a.r2.other (by omega) i u,a.new⟩
theorem CA.start (hck:CkAt O0 b s0 c w) (hok:CkOk c) (h:Hd) (ka:Option Addr) (kn kc:Nat):CA w O0 (fun g=>O0 g /\ g < w.heap.size) b s0 s0 c h ka kn kc (((w.alloc (Δ #[I J h.kind,I J h.num,Ψ (bs h.text),.slice ka kn kc,I J h.pl] 102)).alloc (Δ #[.bool false,Ψ ⟨#[]⟩,I J 0,I J 0] 109)).alloc (Δ #[I J 0,I J 0] 32)):=by
 obtain ⟨h1,h2,h3⟩:=heap_new3 w (Δ #[I J h.kind,I J h.num,Ψ (bs h.text),.slice ka kn kc,I J h.pl] 102) (Δ #[.bool false,Ψ ⟨#[]⟩,I J 0,I J 0] 109) (Δ #[I J 0,I J 0] 32)
 exact ⟨((hck.tight.alloc _).alloc _).alloc _,hok,rfl,(((Fr.refl O0 w).alloc _).alloc _).alloc _,⟨h1,fun hh=>by have:=hh.2; omega⟩,⟨h2,fun hh=>by have:=hh.2; omega⟩,⟨h3,fun hh=>by have:=hh.2; omega⟩,fun g hg=>.inl hg.1⟩
/-- The end of such a call: the two results are stored. -/
theorem CA.done (a:CA w O0 O b s0 s c h ka kn kc W) (x1 x2 x3 x4 x5 x6:Value):Fr O0 w ((((((W.setCell ⟨w.heap.size + 1,0,none⟩ x1).setCell ⟨w.heap.size + 1,1,none⟩ x2).setCell ⟨w.heap.size + 1,2,none⟩ x3).setCell ⟨w.heap.size + 1,3,none⟩ x4).setCell ⟨w.heap.size + 1 + 1,0,none⟩ x5).setCell ⟨w.heap.size + 1 + 1,1,none⟩ x6) /\
 CkAt O b s c ((((((W.setCell ⟨w.heap.size + 1,0,none⟩ x1).setCell ⟨w.heap.size + 1,1,none⟩ x2).setCell ⟨w.heap.size + 1,2,none⟩ x3).setCell ⟨w.heap.size + 1,3,none⟩ x4).setCell ⟨w.heap.size + 1 + 1,0,none⟩ x5).setCell ⟨w.heap.size + 1 + 1,1,none⟩ x6):=
 ⟨fr_res a.fr _ _ _ _ _ _,ck_set (ck_set (ck_set (ck_set (ck_set (ck_set a.ck a.r1.off _ _) a.r1.off _ _) a.r1.off _ _) a.r1.off _ _) a.r2.off _ _) a.r2.off _ _⟩
end
end Go.Proofs.YtlaodgdlkkmmeaaGreat
