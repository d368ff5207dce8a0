/-
  The best end of all. Back from some states: the least kind, the states ahead.
-/
import Derived.Test.YtbbbnopganhebabGreatG36
namespace Go.Proofs.YtbbbnopganhebabGreat
open Go.RowKit Go.Deep Go.Maps
open Go.Value renaming int->I
open Go.IntKind renaming i64->J
set_option maxRecDepth 20000
set_option maxHeartbeats 4000000
def colK (F:Fe) (G:Tb) (i:Int) (a:Option En) (q:Nat):Option En:=(List.range q).foldl (fun a (j:Nat)=>overE a (endE F G i (j:Int))) a
def rowK (F:Fe) (G:Tb) (q:Nat):Option En:=(List.range q).foldl (fun a (i:Nat)=>rowE F G (i:Int) a) none
theorem colK_next (F:Fe) (G:Tb) (i:Int) (a:Option En) (q:Nat):colK F G i a (q + 1) = overE (colK F G i a q) (endE F G i (q:Int)):=by
 unfold colK
 rw [List.range_succ,List.foldl_append]
 rfl
theorem rowK_next (F:Fe) (G:Tb) (q:Nat):rowK F G (q + 1) = colK F G (q:Int) (rowK F G q) (F.ys.length + 1):=by
 unfold rowK
 rw [List.range_succ,List.foldl_append]
 rfl
theorem bestE_eq (F:Fe) (G:Tb):bestE F G = rowK F G (F.xs.length + 1):=rfl
theorem over_small {a b:Option En} (ha:SmE a) (hb:SmE b):SmE (overE a b):=by
 unfold overE
 split
 ·exact ha
 ·exact hb
 ·split
  ·exact hb
  ·exact ha
theorem colK_small {F:Fe} {G:Tb} {i:Int} {a:Option En} (h:F.r.states.length <= 9) (ha:SmE a):∀ {q:Nat},SmE (colK F G i a q)
 | 0=>ha
 | q + 1=>by rw [colK_next]; exact over_small (colK_small h ha) (endE_small h)
theorem rowK_small {F:Fe} {G:Tb} (h:F.r.states.length <= 9):∀ {q:Nat},SmE (rowK F G q)
 | 0=>by show 0 < 1024; omega
 | q + 1=>by rw [rowK_next]; exact colK_small h (rowK_small h)
theorem bestEnd_calls {w0:World} {F:Fe} {A:Fx} {p:Wp} {G:Tb} (w:World) (h:Wk w0 F A p w G) :
 Calls Tryz.prog 22 #[.pointer (some ⟨p.b,0,none⟩)] w fun e w'=>e = .returned (.tuple #[.agg (enV (enG (bestE F G))),.bool (bestE F G).isSome]) /\ Below w.heap.size w w':=by
 have hres:Tryz.f22.results = #[.cell 2 75,.tmp 3]:=by kernel_rfl
 have hxl:=h.fc.xs.length
 have hyl:=h.fc.ys.length
 have hlx:=h.ok.lx
 have hly:=h.ok.ly
 rw [hxl] at hlx
 rw [hyl] at hly
 have HC:Hid (∀ W (a b:Nat),Below w.heap.size w W -> a <= A.x.n -> b <= A.y.n -> Calls Tryz.prog 47 #[.pointer (some ⟨p.b,0,none⟩),I J (a:Int),I J (b:Int)] W fun e w'=>e = .returned (.tuple #[.agg (enV (enG (endE F G a b))),.bool (endE F G a b).isSome]) /\ Below W.heap.size W w'):=fun W a b hW ha hb=>endAt_calls a b W (h.below hW) (by rw [hxl]; exact ha) (by rw [hyl]; exact hb)
 have HX:Hid (∀ W,Below w.heap.size w W -> W.cell? ⟨p.b,12,none⟩ = some (.slice A.x.a A.x.n A.x.c) /\ W.cell? ⟨p.b,13,none⟩ = some (.slice A.y.a A.y.n A.y.c) /\ p.b < W.heap.size):=fun W hW=>⟨(h.below hW).fc.c12,(h.below hW).fc.c13,(h.below hW).fc.lt⟩
 have HS:Hid (Eb w none ((w.alloc (.cells #[I J 0,I J 0,I J 0,.int .u16 0] 75)).alloc (.cells #[I J 0,I J 0,I J 0,.int .u16 0] 75))):=Eb.start w
 have HE:Hid (bestE F G = rowK F G (A.x.n + 1)):=by rw [<- hxl]; exact bestE_eq F G
 have HRn:Hid (∀ q:Nat,rowK F G (q + 1) = colK F G (q:Int) (rowK F G q) (A.y.n + 1)):=fun q=>by rw [<- hyl]; exact rowK_next F G q
 have HCn:Hid (∀ (i:Int) (a:Option En) (q:Nat),colK F G i a (q + 1) = overE (colK F G i a q) (endE F G i (q:Int))):=fun i a q=>colK_next F G i a q
 obtain ⟨R,hR⟩:∃ R,bestE F G = R:=⟨_,rfl⟩
 rw [hR] at HE ⊢
 obtain ⟨x12,-,hb⟩:=HX.out _ HS.out.low
 clear h hR hxl hyl
 go_enter Tryz.func22,Tryz.ntmps22
 go_wp2
 generalize ((w.alloc (.cells #[I J 0,I J 0,I J 0,.int .u16 0] 75)).alloc (.cells #[I J 0,I J 0,I J 0,.int .u16 0] 75)) = w1 at *
 clear x12 hb
 go_loopw [5,6,7,8,9,17] (fun fv _ _ _ _ iv wr=>∃ (i:Nat) (acc:Option En),i <= A.x.n + 1 /\ iv = I J i /\ fv = .bool acc.isSome /\ Hid (rowK F G i = acc /\ Eb w acc wr)) (fun _ _ _ _ _ i _=>A.x.n + 1 - (intOf i).toNat)
 case atStart=>exact ⟨0,none,Nat.zero_le _,rfl,rfl,rfl,HS.out⟩
 case round=>
  clear HS
  obtain ⟨i,acc0,hi,rfl,rfl,HL⟩:=hrel
  by_cases hli:i < A.x.n + 1
  ·have ki:decide ((i:Int) < (A.x.n:Int) + 1) = true:=by simp; omega
   obtain ⟨-,x13,hb⟩:=HX.out _ HL.out.2.low
   go_wp2
   clear x13 hb
   go_loopw [5,7,8,9,27] (fun fv _ _ _ jv wr=>∃ (j:Nat) (acc:Option En),j <= A.y.n + 1 /\ jv = I J j /\ fv = .bool acc.isSome /\ Hid (colK F G i acc0 j = acc /\ Eb w acc wr)) (fun _ _ _ _ j _=>A.y.n + 1 - (intOf j).toNat)
   case atStart=>exact ⟨0,acc0,Nat.zero_le _,rfl,rfl,rfl,HL.out.2⟩
   case round=>
    have HL0:Hid (rowK F G i = acc0):=HL.out.1
    clear HL
    obtain ⟨j,acc,hj,rfl,rfl,HL⟩:=hrel
    by_cases hlj:j < A.y.n + 1
    ·have HN:Hid (colK F G i acc0 (j + 1) = overE acc (endE F G i j)):=by show _ = _; rw [HCn.out i acc0 j,HL.out.1]
     go_wp2_with fail
     refine (HC.out _ i j HL.out.2.low (by omega) (by omega)).mono ?_
     rintro e w2 ⟨rfl,hb2⟩
     have HL2:Hid (Eb w acc w2):=HL.out.2.next hb2
     clear hb2 HL
     obtain ⟨b0,b1,b2,b3,bf⟩:=HL2.out.cells
     have hbb:w.heap.size + 1 < w2.heap.size:=lt_block HL2.out.best
     have HA:Hid (∀ W o a,Eb w a W -> Eb w a (W.alloc o)):=fun W o a hW=>hW.next ((Below.refl _ _).alloc (Nat.le_refl _) o)
     cases hE:endE F G i j with
     | none=>
       have HN2:Hid (colK F G i acc0 (j + 1) = acc):=by show _ = _; rw [HN.out,hE]; cases acc <;> rfl
       clear HN hE
       simp only [enG,enV,Option.getD_none,Option.isSome_none]
       go_wp2
       go_roundw
       case rel=>exact ⟨j + 1,acc,by omega,by go_num,rfl,HN2.out,HA.out _ _ _ HL2.out⟩
       case measure=>simp [intOf]; omega
     | some e1=>
       obtain ⟨ei,ej,en,es⟩:=e1
       rw [hE] at HN
       clear hE
       simp only [enG,enV,Option.getD_some,Option.isSome_some]
       cases acc with
       | none=>
         have HN2:Hid (colK F G i acc0 (j + 1) = some (ei,ej,en,es)):=HN.out
         clear HN
         go_wp2
         go_roundw
         case rel=>exact ⟨j + 1,some (ei,ej,en,es),by omega,by go_num,rfl,HN2.out,HA.out _ _ _ (HL2.out.put4 ei ej en es)⟩
         case measure=>simp [intOf]; omega
       | some m1=>
         obtain ⟨mi,mj,mn,ms⟩:=m1
         simp only [enG,Option.getD_some] at b0 b1 b2 b3
         by_cases hl:mn < en
         ·have kl:decide (mn < en) = true:=by simpa using hl
          have HN2:Hid (colK F G i acc0 (j + 1) = some (ei,ej,en,es)):=by show _ = _; rw [HN.out]; simp [overE,hl]
          clear HN
          go_wp2
          go_roundw
          case rel=>exact ⟨j + 1,some (ei,ej,en,es),by omega,by go_num,rfl,HN2.out,HA.out _ _ _ (HL2.out.put4 ei ej en es)⟩
          case measure=>simp [intOf]; omega
         ·have kl:decide (mn < en) = false:=by simpa using hl
          have HN2:Hid (colK F G i acc0 (j + 1) = some (mi,mj,mn,ms)):=by show _ = _; rw [HN.out]; simp [overE,hl]
          clear HN
          go_wp2
          go_roundw
          case rel=>exact ⟨j + 1,some (mi,mj,mn,ms),by omega,by go_num,rfl,HN2.out,HA.out _ _ _ HL2.out⟩
          case measure=>simp [intOf]; omega
    ·have HN:Hid (rowK F G (i + 1) = acc /\ Eb w acc wr):=⟨by rw [HRn.out i,HL0.out,show A.y.n + 1 = j by omega]; exact HL.out.1,HL.out.2⟩
     clear HL HL0
     go_wp2
     go_roundw
     case rel=>exact ⟨i + 1,acc,by omega,by go_num,rfl,HN.out⟩
     case measure=>simp [intOf]; omega
  ·have HR2:Hid (R = acc0):=by
    show _ = _
    rw [HE.out,<- HL.out.1,show i = A.x.n + 1 by omega]
   obtain ⟨b0,b1,b2,b3,bf⟩:=HL.out.2.cells
   obtain ⟨r0,r1,r2,r3,rf⟩:=HL.out.2.rcells
   go_wp2
   refine bodyPost_ret (v:=.tuple #[.agg (enV (enG acc0)),.bool acc0.isSome]) ?_ rfl ?_
   ·simp only [results,hres,enV]
    go_simp
   ·rw [HR2.out]
    exact ⟨rfl,below_set (below_set (below_set (below_set HL.out.2.low (by simp) _) (by simp) _) (by simp) _) (by simp) _⟩
set_option maxRecDepth 20000
set_option maxHeartbeats 4000000
def leastK (sts:List St) (S q:Nat):Int:=(List.range q).foldl (fun m (k:Nat)=>if hasE S (k:Int) then min m (sts.getD k (0,[])).1 else m) 3
theorem leastK_next {sts:List St} {S q:Nat} {st:St} (h:sts[q]? = some st):leastK sts S (q + 1) = if hasE S (q:Int) then min (leastK sts S q) st.1 else leastK sts S q:=by
 unfold leastK
 rw [List.range_succ,List.foldl_append]
 simp [List.getD_eq_getElem?_getD,h]
theorem leastE_eq (sts:List St) (S:Nat):leastE sts S = leastK sts S sts.length:=rfl
theorem leastKind_calls {w0:World} {F:Fe} {A:Fx} {p:Wp} {G:Tb} (S:Nat) (hS:S < 1024) (w:World) (h:Wk w0 F A p w G) :
 Calls Tryz.prog 49 #[.pointer (some ⟨p.b,0,none⟩),.int .u16 (S:Int)] w fun e w'=>e = .returned (I J (leastE F.r.states S)) /\ Below w.heap.size w w':=by
 have hstn:=h.fc.states.length
 have hfew:=h.ok.few
 rw [hstn] at hfew
 have HSt:Hid (StsAt w A.t.a A.t.n F.r.states):=h.fc.states
 have c10:=h.fc.c10
 have hb:=h.fc.lt
 obtain ⟨R,hR⟩:∃ R,leastE F.r.states S = R:=⟨_,rfl⟩
 have HR:Hid (leastK F.r.states S A.t.n = R):=by rw [<- hstn]; exact hR
 rw [hR]
 clear h hR
 go_enter Tryz.func49,Tryz.ntmps49
 go_wp2
 go_loopw [5,6,7,15] (fun mv _ _ iv wr=>∃ (q:Nat) (m:Int),q <= A.t.n /\ iv = I J q /\ mv = I J m /\ Hid (leastK F.r.states S q = m /\ Below w.heap.size w wr)) (fun _ _ _ i _=>A.t.n - (intOf i).toNat)
 case atStart=>exact ⟨0,3,Nat.zero_le _,rfl,rfl,rfl,Below.refl _ _⟩
 case round=>
  obtain ⟨q,m,hq,rfl,rfl,HL⟩:=hrel
  by_cases hlt:q < A.t.n
  ·obtain ⟨d,hdi⟩:∃ d,F.r.states[q]? = some d:=⟨F.r.states[q]'(by rw [hstn]; exact hlt),List.getElem?_eq_getElem _⟩
   obtain ⟨tb,tof,hta,hts⟩:=(HSt.out.below HL.out.2).cells (by omega)
   obtain ⟨ea,en,ec,t0,t1,-⟩:=hts q d hdi
   have htb:tb < wr.heap.size:=World.block_lt_of_cell? wr _ t0
   have HN:Hid (leastK F.r.states S (q + 1) = if hasE S (q:Int) then min m d.1 else m):=by show _ = _; rw [leastK_next hdi,HL.out.1]
   have HB:Hid (∀ o,Below w.heap.size w (wr.alloc o)):=fun o=>HL.out.2.alloc HL.out.2.size o
   obtain ⟨kd,es⟩:=d
   simp only at t0 t1 HN
   rw [hta]
   clear hdi hts HL hta
   go_wp2_with fail
   refine (has_calls S (q:Int) _ (by omega) (by omega) (by omega)).mono ?_
   rintro e w2 ⟨rfl,rfl⟩
   cases hh:hasE S (q:Int) with
   | false=>
     have HN2:Hid (leastK F.r.states S (q + 1) = m):=by show _ = _; rw [HN.out,hh]; rfl
     clear HN hh
     go_wp2
     go_roundw
     case rel=>exact ⟨q + 1,m,by omega,by go_num,rfl,HN2.out,HB.out _⟩
     case measure=>simp [intOf]; omega
   | true=>
     have HN2:Hid (leastK F.r.states S (q + 1) = min m kd):=by show _ = _; rw [HN.out,hh]; rfl
     clear HN hh
     go_wp2
     go_roundw
     case rel=>exact ⟨q + 1,min m kd,by omega,by go_num,rfl,HN2.out,HB.out _⟩
     case measure=>simp [intOf]; omega
  ·have HE:Hid (R = m /\ Below w.heap.size w wr):=⟨by rw [<- HR.out,<- HL.out.1,show q = A.t.n by omega],HL.out.2⟩
   clear HL
   go_wp2
   go_ret
   exact ⟨by rw [HE.out.1]; rfl,HE.out.2⟩
def aheadK (F:Fe) (G:Tb) (S:Nat) (kind i j:Int) (q:Nat):Nat:=(List.range q).foldl (aheadS F G S kind i j) 0
theorem aheadK_next (F:Fe) (G:Tb) (S:Nat) (kind i j:Int) (q:Nat):aheadK F G S kind i j (q + 1) = aheadS F G S kind i j (aheadK F G S kind i j q) q:=by
 unfold aheadK
 rw [List.range_succ,List.foldl_append]
 rfl
theorem aheadE_eq (F:Fe) (G:Tb) (S:Nat) (kind i j:Int):aheadE F G S kind i j = aheadK F G S kind i j F.r.states.length:=rfl
theorem aheadS_no {F:Fe} {G:Tb} {S:Nat} {kind i j:Int} {X q:Nat} {st:St} (h:F.r.states[q]? = some st) (hn:st.1 ≠ kind \/ hasE S (q:Int) = false):aheadS F G S kind i j X q = X:=by
 unfold aheadS
 simp only [List.getD_eq_getElem?_getD,h,Option.getD_some]
 rw [if_neg]
 rintro ⟨h1,h2⟩
 rcases hn with hn | hn
 ·exact hn h1
 ·rw [h2] at hn; cases hn
theorem aheadS_yes {F:Fe} {G:Tb} {S:Nat} {kind i j:Int} {X q:Nat} {st:St} (h:F.r.states[q]? = some st) (h1:st.1 = kind) (h2:hasE S (q:Int) = true):aheadS F G S kind i j X q = st.2.foldl (fromS F G kind i j ((G i j (q:Int)).getD 0)) X:=by
 unfold aheadS
 simp only [List.getD_eq_getElem?_getD,h,Option.getD_some]
 rw [if_pos ⟨h1,h2⟩]
theorem from_cons {F:Fe} {G:Tb} {kind i j v:Int} {X:Nat} {es:List (Int × Int)} {q:Nat} {e:Int × Int} (h:es[q]? = some e):(es.drop q).foldl (fromS F G kind i j v) X = (es.drop (q + 1)).foldl (fromS F G kind i j v) (fromS F G kind i j v X e):=by rw [dropP h]; rfl
theorem aheadW_calls {w0:World} {F:Fe} {A:Fx} {p:Wp} {G:Tb} (S:Nat) (hS:S < 1024) (kind:Int) (a b:Nat) (w:World) (h:Wk w0 F A p w G) (hi:a <= F.xs.length) (hj:b <= F.ys.length) :
 Calls Tryz.prog 51 #[.pointer (some ⟨p.b,0,none⟩),.int .u16 (S:Int),I J kind,I J (a:Int),I J (b:Int)] w fun e w'=>e = .returned (.int .u16 (aheadE F G S kind a b:Int)) /\ aheadE F G S kind a b < 1024 /\ Below w.heap.size w w':=by
 have hstn:=h.fc.states.length
 have hfew:=h.ok.few
 have HSt:Hid (StsAt w A.t.a A.t.n F.r.states):=h.fc.states
 have HC1:Hid (∀ W (q:Nat),Below w.heap.size w W -> q < A.t.n -> Calls Tryz.prog 20 #[.pointer (some ⟨p.b,0,none⟩),I J (q:Int),I J (a:Int),I J (b:Int)] W fun e w'=>e = .returned (.tuple #[I J ((G a b (q:Int)).getD 0),.bool (G a b (q:Int)).isSome]) /\ Below W.heap.size W w'):=fun W q hW h1=>value_calls q a b W (h.below hW) (by omega) (by rw [hstn]; omega) (by omega) (by omega)
 have HC2:Hid (∀ W st,Below w.heap.size w W -> st ∈ F.r.states -> ∀ e ∈ st.2,Calls Tryz.prog 81 #[.pointer (some ⟨p.b,0,none⟩),I J kind,.agg #[I J e.1,I J e.2],I J (a:Int),I J (b:Int)] W fun x w'=>x = .returned (.tuple #[I J ((givenE F G kind e a b).getD 0),.bool (givenE F G kind e a b).isSome]) /\ Below W.heap.size W w'):=fun W st hW hst e he=>by
  have:=h.ok.edges st hst e he
  exact given_calls kind e.1 e.2 a b W (h.below hW) this.1.1 this.1.2 this.2 hi hj
 have HEd:Hid (∀ st ∈ F.r.states,∀ e ∈ st.2,-1 <= e.1 /\ e.1 <= 8):=fun st hst e he=>by
  have:=(h.ok.edges st hst e he).1
  omega
 have c10:=h.fc.c10
 have hb:=h.fc.lt
 rw [hstn] at hfew
 obtain ⟨R,hR⟩:∃ R,aheadE F G S kind a b = R:=⟨_,rfl⟩
 have HR:Hid (aheadK F G S kind a b A.t.n = R):=by rw [<- hstn]; exact hR
 rw [hR]
 clear h hR
 go_enter Tryz.func51,Tryz.ntmps51
 go_wp2
 go_loopw [11,12,13,14,15,17,18,19,27] (fun fv _ _ _ _ _ _ _ iv wr=>∃ (q X:Nat),q <= A.t.n /\ iv = I J q /\ fv = .int .u16 (X:Int) /\ X < 1024 /\ Hid (aheadK F G S kind a b q = X /\ Below w.heap.size w wr)) (fun _ _ _ _ _ _ _ _ i _=>A.t.n - (intOf i).toNat)
 case atStart=>exact ⟨0,0,Nat.zero_le _,rfl,rfl,by omega,rfl,Below.refl _ _⟩
 case round=>
  obtain ⟨q,X,hq,rfl,rfl,hX,HL⟩:=hrel
  by_cases hlt:q < A.t.n
  ·obtain ⟨d,hdi⟩:∃ d,F.r.states[q]? = some d:=⟨F.r.states[q]'(by rw [hstn]; exact hlt),List.getElem?_eq_getElem _⟩
   obtain ⟨tb,tof,hta,hts⟩:=(HSt.out.below HL.out.2).cells (by omega)
   obtain ⟨ea,en,ec,t0,t1,hpc⟩:=hts q d hdi
   have htb:tb < wr.heap.size:=World.block_lt_of_cell? wr _ t0
   have hen:=hpc.short
   have hel:=hpc.length
   have HPC:Hid (PcsAt wr ea en d.2):=hpc
   have HM:Hid (d ∈ F.r.states):=List.mem_of_getElem? hdi
   have HN:Hid (aheadK F G S kind a b (q + 1) = aheadS F G S kind a b X q):=by show _ = _; rw [aheadK_next,HL.out.1]
   have HNo:Hid (d.1 ≠ kind \/ hasE S (q:Int) = false -> aheadS F G S kind a b X q = X):=aheadS_no hdi
   have HYes:Hid (d.1 = kind -> hasE S (q:Int) = true -> aheadS F G S kind a b X q = d.2.foldl (fromS F G kind a b ((G a b (q:Int)).getD 0)) X):=aheadS_yes hdi
   have HB:Hid (∀ o,Below w.heap.size w (wr.alloc o)):=fun o=>HL.out.2.alloc HL.out.2.size o
   obtain ⟨kd,es⟩:=d
   simp only at t0 t1 HNo HYes HPC hel
   unfold maxLen at hen
   rw [hta]
   have ki:decide ((q:Int) < (A.t.n:Int)) = true:=by simp; omega
   clear hdi hts hta hpc
   by_cases hk:kd = kind
   ·subst hk
    have kk:(kd != kd) = false:=by simp
    go_wp2_with fail
    refine (has_calls S (q:Int) _ (by omega) (by omega) (by omega)).mono ?_
    rintro e w2 ⟨rfl,rfl⟩
    cases hh:hasE S (q:Int) with
    | false=>
      have HN2:Hid (aheadK F G S kd a b (q + 1) = X):=by show _ = _; rw [HN.out,HNo.out (.inr hh)]
      clear HN hh HNo HYes HL
      go_wp2
      go_roundw
      case rel=>exact ⟨q + 1,X,by omega,by go_num,rfl,hX,HN2.out,HB.out _⟩
      case measure=>simp [intOf]; omega
    | true=>
      have HN2:Hid (aheadK F G S kd a b (q + 1) = (es.drop 0).foldl (fromS F G kd a b ((G a b (q:Int)).getD 0)) X):=by show _ = _; rw [HN.out,HYes.out (by first | rfl | trivial) hh,List.drop_zero]
      have HBo:Hid (Below wr.heap.size wr (wr.alloc (.cells #[I J kd,.slice ea en ec] 42))):=(Below.refl _ _).alloc (Nat.le_refl _) _
      clear HN hh HNo HYes
      go_wp2_with fail
      refine (HC1.out _ q (HB.out _) hlt).mono ?_
      rintro e w2 ⟨rfl,hb2⟩
      have hBw:Below wr.heap.size wr w2:=HBo.out.trans (hb2.mono HBo.out.size)
      have HBw:Hid (Below w.heap.size w w2):=HL.out.2.trans (hBw.mono HL.out.2.size)
      have HP2:Hid (PcsAt w2 ea en es):=HPC.out.below hBw
      have s1:w2.cell? ⟨wr.heap.size,1,none⟩ = some (.slice ea en ec):=keepc hb2 (blk (heap_alloc_new wr (.cells #[I J kd,.slice ea en ec] 42)) rfl)
      generalize hvv:(G a b (q:Int)).getD 0 = v at *
      clear hb2 hBw HBo HPC HL t0 t1 htb hvv
      go_wp2
      clear s1
      go_loopw [11,17,18,19,53] (fun fv _ _ _ iv wr=>∃ (m X:Nat),m <= en /\ iv = I J m /\ fv = .int .u16 (X:Int) /\ X < 1024 /\ Hid ((es.drop m).foldl (fromS F G kd a b v) X = aheadK F G S kd a b (q + 1) /\ Below w2.heap.size w2 wr)) (fun _ _ _ _ i _=>en - (intOf i).toNat)
      case atStart=>exact ⟨0,X,Nat.zero_le _,rfl,rfl,hX,HN2.out.symm,Below.refl _ _⟩
      case round=>
       clear HN2 hX
       obtain ⟨m,X,hm,rfl,rfl,hX,HL⟩:=hrel
       by_cases hme:m < en
       ·obtain ⟨d,hdi⟩:∃ d,es[m]? = some d:=⟨es[m]'(by rw [hel]; exact hme),List.getElem?_eq_getElem _⟩
        obtain ⟨gb,go,rfl,hcs⟩:=(HP2.out.below HL.out.2).cells (by omega)
        obtain ⟨c1,c2⟩:=hcs m d hdi
        have hed:=HEd.out _ HM.out d (List.mem_of_getElem? hdi)
        have HB3:Hid (Below w.heap.size w wr):=HBw.out.trans (HL.out.2.mono HBw.out.size)
        have HC3:=HC2.out (wr.alloc (.cells #[I J d.1,I J d.2] 44)) _ (HB3.out.alloc HB3.out.size _) HM.out d (List.mem_of_getElem? hdi)
        have HQ:Hid ((es.drop (m + 1)).foldl (fromS F G kd a b v) (fromS F G kd a b v X d) = aheadK F G S kd a b (q + 1)):=by show _ = _; rw [<- from_cons hdi]; exact HL.out.1
        have HFr:Hid (fromS F G kd a b v X d = if givenE F G kd d a b = some v then withE X d.1 else X):=rfl
        obtain ⟨s,c⟩:=d
        simp only at c1 c2 hed HC3 HFr
        have hcb:gb < wr.heap.size:=World.block_lt_of_cell? wr _ c1
        have hBo:Below wr.heap.size wr (wr.alloc (.cells #[I J s,I J c] 44)):=(Below.refl _ _).alloc (Nat.le_refl _) _
        have e0:(wr.alloc (.cells #[I J s,I J c] 44)).cell? ⟨wr.heap.size,0,none⟩ = some (I J s):=blk (heap_alloc_new wr _) rfl
        clear hcs hdi
        go_wp2_with fail
        refine HC3.mono ?_
        rintro e w3 ⟨rfl,hb3⟩
        have HB4:Hid (Below w2.heap.size w2 w3):=by
         have h1:=hBo.trans (hb3.mono hBo.size)
         exact HL.out.2.trans (h1.mono HL.out.2.size)
        have f0:=keepc hb3 e0
        clear hb3 HL HB3 HC3 hBo e0 c1 c2 hcb
        cases hg:givenE F G kd (s,c) a b with
        | none=>
          have HQ2:Hid ((es.drop (m + 1)).foldl (fromS F G kd a b v) X = aheadK F G S kd a b (q + 1)):=by
           show _ = _
           rw [<- HQ.out,HFr.out,hg,if_neg (by simp)]
          clear HQ HFr hg
          go_wp2
          go_roundw
          case rel=>exact ⟨m + 1,X,by omega,by go_num,rfl,hX,HQ2.out,HB4.out⟩
          case measure=>simp [intOf]; omega
        | some n=>
          by_cases hn:n = v
          ·have HQ2:Hid ((es.drop (m + 1)).foldl (fromS F G kd a b v) (withE X s) = aheadK F G S kd a b (q + 1)):=by
            show _ = _
            rw [<- HQ.out,HFr.out,hg,if_pos (by rw [hn])]
           have kn:(n == v) = true:=by simpa using hn
           have hX2:=with_lt (s:=s) hX hed.2
           obtain ⟨ed1,ed2⟩:=hed
           clear HQ HFr hg hn
           go_wp2_with fail
           refine (with_calls X s _ (by omega) ed1 (by omega)).mono ?_
           rintro e w4 ⟨rfl,rfl⟩
           go_wp2
           go_roundw
           case rel=>exact ⟨m + 1,withE X s,by omega,by go_num,rfl,hX2,HQ2.out,HB4.out⟩
           case measure=>simp [intOf]; omega
          ·have HQ2:Hid ((es.drop (m + 1)).foldl (fromS F G kd a b v) X = aheadK F G S kd a b (q + 1)):=by
            show _ = _
            rw [<- HQ.out,HFr.out,hg,if_neg (by simpa using hn)]
           have kn:(n == v) = false:=by simpa using hn
           clear HQ HFr hg hn
           go_wp2
           go_roundw
           case rel=>exact ⟨m + 1,X,by omega,by go_num,rfl,hX,HQ2.out,HB4.out⟩
           case measure=>simp [intOf]; omega
       ·have HQ:Hid (aheadK F G S kd a b (q + 1) = X /\ Below w.heap.size w wr):=by
         have:=HL.out.1
         rw [List.drop_eq_nil_of_le (by rw [hel]; omega)] at this
         exact ⟨this.symm,HBw.out.trans (HL.out.2.mono HBw.out.size)⟩
        clear HL
        go_wp2
        go_roundw
        case rel=>exact ⟨q + 1,X,by omega,by go_num,rfl,hX,HQ.out⟩
        case measure=>simp [intOf]; omega
   ·have HN2:Hid (aheadK F G S kind a b (q + 1) = X):=by show _ = _; rw [HN.out,HNo.out (.inl hk)]
    have kk:(kd != kind) = true:=by simpa using hk
    clear HN HNo HYes HL
    go_wp2
    go_roundw
    case rel=>exact ⟨q + 1,X,by omega,by go_num,rfl,hX,HN2.out,HB.out _⟩
    case measure=>simp [intOf]; omega
  ·have HE:Hid (R = X /\ Below w.heap.size w wr):=⟨by rw [<- HR.out,<- HL.out.1,show q = A.t.n by omega],HL.out.2⟩
   clear HL
   go_wp2
   go_ret
   exact ⟨by rw [HE.out.1]; rfl,by rw [HE.out.1]; exact hX,HE.out.2⟩
end Go.Proofs.YtbbbnopganhebabGreat
