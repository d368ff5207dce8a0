/-
  A cell filled. And what follows.
-/
import Derived.Test.YtbbbnopganhebabGreatG34
namespace Go.Proofs.YtbbbnopganhebabGreat
open Go.RowKit Go.Deep Go.Maps
open Go.Value renaming int->I
open Go.IntKind renaming i64->J
set_option maxRecDepth 20000
set_option maxHeartbeats 1000000
/-- The cells ahead have their values, the cell itself has none. -/
structure Ready (F:Fe) (G:Tb) (a b:Int):Prop where
 past:∀ i j s:Int,(i < a \/ (i = a /\ j < b)) -> j <= F.ys.length -> G i j s = vlE F i j s
 here:∀ s,G a b s = none
def fillK (F:Fe) (G:Tb) (a b k:Int):Tb:=fun i j s=>if i = a /\ j = b /\ s < k then vlE F a b s else G i j s
theorem fillK_low {F:Fe} {G:Tb} {a b:Int} (h:Ready F G a b):fillK F G a b (-1) = G:=by
 funext i j s
 unfold fillK
 split
 ·next e=>obtain ⟨rfl,rfl,hs⟩:=e; rw [vlE_none (by omega),h.here]
 ·rfl
theorem fillK_next {F:Fe} {G:Tb} {a b k:Int} (h:Ready F G a b):fillK F G a b (k + 1) = match vlE F a b k with
 | none=>fillK F G a b k
 | some v=>updE (fillK F G a b k) a b k v:=by
 funext i j s
 cases hv:vlE F a b k with
 | none=>
   simp only
   unfold fillK
   by_cases e:i = a /\ j = b /\ s < k
   ·rw [if_pos e,if_pos (by omega)]
   ·rw [if_neg e]
    split
    ·next e2=>
     have:s = k:=by omega
     obtain ⟨rfl,rfl,-⟩:=e2
     subst this
     rw [hv,h.here]
    ·rfl
 | some v=>
   simp only
   by_cases e:i = a /\ j = b /\ s = k
   ·obtain ⟨rfl,rfl,rfl⟩:=e
    rw [updE_at]
    unfold fillK
    rw [if_pos (by omega),hv]
   ·rw [updE_other e]
    unfold fillK
    by_cases e2:i = a /\ j = b /\ s < k
    ·rw [if_pos e2,if_pos (by omega)]
    ·rw [if_neg e2,if_neg (by omega)]
theorem fillK_great {F:Fe} {G:Tb} {a b:Int} {k:Nat} {kd:Int} {es:List (Int × Int)} (h:Ready F G a b) (ha:0 <= a) (hb:0 <= b) (hy:b <= F.ys.length) (hband:bandE F.r a b = true) (hk:F.r.states[k]? = some (kd,es)) :
 greatE F (fillK F G a b k) kd a b none es = vlE F a b (k:Int):=by
 rw [vlE_state ha hb hband hk]
 refine great_same (fun s=>?_) none es
 have:=dn_ov kd
 unfold fillK
 rw [if_neg (by omega)]
 exact h.past _ _ s (by omega) (by omega)
/-- All of a cell. -/
def fillE (F:Fe) (G:Tb) (a b:Int):Tb:=fun i j s=>if i = a /\ j = b then vlE F a b s else G i j s
theorem fillK_all {F:Fe} {G:Tb} {a b:Int} (h:Ready F G a b):fillK F G a b F.r.states.length = fillE F G a b:=by
 funext i j s
 unfold fillK fillE
 by_cases e:i = a /\ j = b
 ·rw [if_pos e]
  by_cases hs:s < F.r.states.length
  ·rw [if_pos ⟨e.1,e.2,hs⟩]
  ·rw [if_neg (fun h=>hs h.2.2)]
   obtain ⟨rfl,rfl⟩:=e
   rw [h.here,vlE_none (by omega)]
 ·rw [if_neg e,if_neg (fun h=>e ⟨h.1,h.2.1⟩)]
theorem fill_calls {w0:World} {F:Fe} {A:Fx} {p:Wp} {G:Tb} (a b:Nat) (w:World) (h:Wk w0 F A p w G) (hr:Ready F G a b) (hband:bandE F.r a b = true) (hi:a <= F.xs.length) (hj:b <= F.ys.length) :
 Calls Tryz.prog 43 #[.pointer (some ⟨p.b,0,none⟩),I J (a:Int),I J (b:Int)] w fun e w'=>e = .returned (.tuple #[]) /\ Wk w0 F A p w' (fillE F G a b):=by
 have hst:=h.fc.states
 have hstn:=hst.length
 have hsts:=hst.short
 unfold maxLen at hsts
 have HB:Hid (∀ W,Wk w0 F A p W G -> Calls Tryz.prog 74 #[.pointer (some ⟨p.b,0,none⟩),I J (a:Int),I J (b:Int)] W fun e w'=>e = .returned (.bool (allowE F.r.beg (decide ((a:Int) = 0)) (decide ((b:Int) = 0)))) /\ W = w'):=fun W hW=>begin_calls a b W hW.fc
 have HF:Hid (∀ W,Wk w0 F A p W G -> Calls Tryz.prog 76 #[.pointer (some ⟨p.b,0,none⟩),I J (b:Int)] W fun e w'=>e = .returned (I J (if (b:Int) = 0 then 0 else wrap64 (- vAt F.vs F.r.front))) /\ ∃ n,w' = W.drewN n):=fun W hW=>front_calls b W hW.fc hW.ok.toFeR
 have HK:Hid (∀ W G' (s v:Int),Wk w0 F A p W G' -> -1 <= s -> s < F.r.states.length -> Calls Tryz.prog 75 #[.pointer (some ⟨p.b,0,none⟩),I J s,I J (a:Int),I J (b:Int),I J v] W fun e w'=>e = .returned (.tuple #[]) /\ Wk w0 F A p w' (updE G' a b s v)):=fun W G' s v hW h1 h2=>keep_calls s a b v W hW h1 h2 hi hj
 have HGr:Hid (∀ W (k:Nat),Wk w0 F A p W (fillK F G a b k) -> k < F.r.states.length -> Calls Tryz.prog 77 #[.pointer (some ⟨p.b,0,none⟩),I J (k:Int),I J (a:Int),I J (b:Int)] W fun e w'=>e = .returned (.tuple #[I J ((vlE F a b (k:Int)).getD 0),.bool (vlE F a b (k:Int)).isSome]) /\ Below W.heap.size W w'):=fun W k hW hk=>by
  obtain ⟨⟨kd,es⟩,hs⟩:∃ s,F.r.states[k]? = some s:=⟨F.r.states[k],List.getElem?_eq_getElem hk⟩
  have:=greatest_calls k kd es a b W hW hs hi hj
  rw [fillK_great hr (by omega) (by omega) (by omega) hband hs] at this
  exact this
 have HN:Hid (∀ k:Int,fillK F G a b (k + 1) = match vlE F a b k with
  | none=>fillK F G a b k
  | some v=>updE (fillK F G a b k) a b k v):=fun k=>fillK_next hr
 have HS:Hid (vlE F a b (-1) = if allowE F.r.beg (decide ((a:Int) = 0)) (decide ((b:Int) = 0)) then some (if (b:Int) = 0 then 0 else wrap64 (- vAt F.vs F.r.front)) else none):=vlE_start (by omega) (by omega) hband
 have HL:Hid (fillK F G a b (-1) = G /\ fillK F G a b (A.t.n:Int) = fillE F G a b):=⟨fillK_low hr,by rw [<- hstn]; exact fillK_all hr⟩
 have HW:Hid (Wk w0 F A p w G):=h
 have HC:Hid (∀ W G',Wk w0 F A p W G' -> W.cell? ⟨p.b,10,none⟩ = some (.slice A.t.a A.t.n A.t.c) /\ p.b < W.heap.size):=fun W G' hW=>⟨hW.fc.c10,hW.fc.lt⟩
 rw [hstn] at HK HGr
 have hb:=h.fc.lt
 clear h hst hr hband
 go_enter Tryz.func43,Tryz.ntmps43
 go_wp2_with fail
 refine (HB.out w HW.out).mono ?_
 rintro e w1 ⟨rfl,rfl⟩
 generalize allowE F.r.beg (decide ((a:Int) = 0)) (decide ((b:Int) = 0)) = al at *
 go_upto_if 14 with (fail)
 go_cut [] (fun wc=>Wk w0 F A p wc (fillK F G a b 0))
 case first=>
  have H0:=HN.out (-1)
  rw [HS.out,HL.out.1] at H0
  have e0:(-1:Int) + 1 = 0:=rfl
  rw [e0] at H0
  cases al with
  | false=>
    simp only [Bool.false_eq_true,if_false] at H0
    have HW2:Hid (Wk w0 F A p w (fillK F G a b 0)):=by show Wk w0 F A p w (fillK F G a b 0); rw [H0]; exact HW.out
    clear H0
    go_wp2_with fail
    go_meet
    exact HW2.out
  | true=>
    simp only [if_true] at H0
    generalize (if (b:Int) = 0 then (0:Int) else wrap64 (- vAt F.vs F.r.front)) = z at *
    have HZ:Hid (fillK F G a b 0 = updE G a b (-1) z):=H0
    clear H0
    go_wp2_with fail
    refine (HF.out w HW.out).mono ?_
    rintro e w2 ⟨rfl,m,rfl⟩
    go_wp2_with fail
    refine (HK.out _ G (-1) z (HW.out.below (below_dn (Below.refl _ _) m)) (by omega) (by omega)).mono ?_
    rintro e w3 ⟨rfl,hw3⟩
    have HW3:Hid (Wk w0 F A p w3 (fillK F G a b 0)):=by show Wk w0 F A p w3 (fillK F G a b 0); rw [HZ.out]; exact hw3
    clear hw3
    go_wp2_with fail
    go_meet
    exact HW3.out
 case rest=>
  have HWc:Hid (Wk w0 F A p wc (fillK F G a b 0)):=hcut
  obtain ⟨x10,hb2⟩:=HC.out wc _ hcut
  clear hcut HB HF HW HS
  go_wp2
  go_loopw [6,7,8,29] (fun _ _ _ iv wr=>∃ q:Nat,q <= A.t.n /\ iv = I J q /\ Hid (Wk w0 F A p wr (fillK F G a b q))) (fun _ _ _ i _=>A.t.n - (intOf i).toNat)
  case atStart=>exact ⟨0,Nat.zero_le _,rfl,HWc.out⟩
  case round=>
   clear HWc
   obtain ⟨q,hq,rfl,HWr⟩:=hrel
   by_cases hlt:q < A.t.n
   ·have HQ:=HN.out (q:Int)
    go_wp2_with fail
    refine (HGr.out wr q HWr.out (by omega)).mono ?_
    rintro e w2 ⟨rfl,hb2⟩
    have HW2:Hid (Wk w0 F A p w2 (fillK F G a b q)):=HWr.out.below hb2
    clear hb2 HWr
    cases hv:vlE F a b (q:Int) with
    | none=>
      rw [hv] at HQ
      have HW3:Hid (Wk w0 F A p w2 (fillK F G a b ((q:Int) + 1))):=by show Wk w0 F A p w2 (fillK F G a b ((q:Int) + 1)); rw [HQ]; exact HW2.out
      clear HQ hv
      go_wp2
      go_roundw
      case rel=>exact ⟨q + 1,by omega,by go_num,HW3.out⟩
      case measure=>simp [intOf]; omega
    | some v=>
      rw [hv] at HQ
      have HQ2:Hid (fillK F G a b ((q:Int) + 1) = updE (fillK F G a b q) a b q v):=HQ
      clear HQ hv
      go_wp2_with fail
      refine (HK.out _ (fillK F G a b q) q v HW2.out (by omega) (by omega)).mono ?_
      rintro e w3 ⟨rfl,hw3⟩
      have HW3:Hid (Wk w0 F A p w3 (fillK F G a b ((q:Int) + 1))):=by show Wk w0 F A p w3 (fillK F G a b ((q:Int) + 1)); rw [HQ2.out]; exact hw3
      clear hw3 HQ2
      go_wp2
      go_roundw
      case rel=>exact ⟨q + 1,by omega,by go_num,HW3.out⟩
      case measure=>simp [intOf]; omega
   ·have hqe:q = A.t.n:=by omega
    subst hqe
    go_wp2
    go_end0
    refine ⟨rfl,?_⟩
    rw [<- HL.out.2]
    exact HWr.out
set_option maxRecDepth 20000
theorem info3E:(Tryz.prog.info? 3).map (fun i=>(i.zero,i.size,i.bytes)) = some (some (I J 0),1,8):=by kernel_rfl
theorem info68E:(Tryz.prog.info? 73).map (fun i=>(i.zero,i.size,i.bytes)) = some (some (.int .u16 0),1,2):=by kernel_rfl
theorem tableI_calls (r c:Nat) (w:World) (hs:r * c <= 1048576) :
 Calls Tryz.prog 41 #[I J (r:Int),I J (c:Int)] w fun e w'=>∃ g,e = .returned (.agg #[I J (c:Int),.slice (some ⟨g,0,none⟩) (r * c) (r * c)]) /\ w.heap.size <= g /\ Below w.heap.size w w' /\ rowI w' g (r * c) (fun _=>0):=by
 have hmk:=run_make_row' (P:=Tryz.prog) 23 3 (I J 0) 8 Tryz.underlying23 info3E rfl .i64 .i64 (r * c) (by omega) (by omega)
 simp only [Int.natCast_mul] at hmk
 have m0:(r:Int) * (c:Int) = ((r * c:Nat):Int):=by simp
 have m1:0 <= (r:Int) * (c:Int):=by rw [m0]; omega
 have m2:(r:Int) * (c:Int) <= 1048576:=by rw [m0]; omega
 have HP:Hid (∀ o,Below w.heap.size w ((w.alloc o).alloc (.cells (madeCells #[I J 0] (r * c)) 3)) /\ rowI ((w.alloc o).alloc (.cells (madeCells #[I J 0] (r * c)) 3)) (w.heap.size + 1) (r * c) (fun _=>0)):=fun o=>by
  refine ⟨((Below.refl _ _).alloc (Nat.le_refl _) o).alloc (by simp) _,?_⟩
  have:=World.rowIs_made (w.alloc o) (I J 0) (r * c) 3
  rw [show (w.alloc o).heap.size = w.heap.size + 1 by simp] at this
  exact this
 clear m0 hs
 have hres:Tryz.f41.results = #[.cell 4 114]:=by kernel_rfl
 go_enter Tryz.func41,Tryz.ntmps41
 go_wp2
 refine bodyPost_ret (v:=.agg #[I J (c:Int),.slice (some ⟨w.heap.size + 1,0,none⟩) (r * c) (r * c)]) ?_ rfl ?_
 ·simp only [results,hres]
  go_simp
 ·exact ⟨w.heap.size + 1,rfl,by omega,(HP.out _).1,(HP.out _).2⟩
theorem tableU_calls (r c:Nat) (w:World) (hs:r * c <= 1048576) :
 Calls Tryz.prog 40 #[I J (r:Int),I J (c:Int)] w fun e w'=>∃ g,e = .returned (.agg #[I J (c:Int),.slice (some ⟨g,0,none⟩) (r * c) (r * c)]) /\ w.heap.size <= g /\ Below w.heap.size w w' /\ rowU w' g (r * c) (fun _=>0):=by
 have hmk:=run_make_row' (P:=Tryz.prog) 106 73 (.int .u16 0) 2 Tryz.underlying106 info68E rfl .i64 .i64 (r * c) (by omega) (by omega)
 simp only [Int.natCast_mul] at hmk
 have m0:(r:Int) * (c:Int) = ((r * c:Nat):Int):=by simp
 have m1:0 <= (r:Int) * (c:Int):=by rw [m0]; omega
 have m2:(r:Int) * (c:Int) <= 1048576:=by rw [m0]; omega
 have HP:Hid (∀ o,Below w.heap.size w ((w.alloc o).alloc (.cells (madeCells #[.int .u16 0] (r * c)) 73)) /\ rowU ((w.alloc o).alloc (.cells (madeCells #[.int .u16 0] (r * c)) 73)) (w.heap.size + 1) (r * c) (fun _=>0)):=fun o=>by
  refine ⟨((Below.refl _ _).alloc (Nat.le_refl _) o).alloc (by simp) _,?_⟩
  have:=World.rowIs_made (w.alloc o) (.int .u16 0) (r * c) 73
  rw [show (w.alloc o).heap.size = w.heap.size + 1 by simp] at this
  exact this
 clear m0 hs
 have hres:Tryz.f40.results = #[.cell 4 108]:=by kernel_rfl
 go_enter Tryz.func40,Tryz.ntmps40
 go_wp2
 refine bodyPost_ret (v:=.agg #[I J (c:Int),.slice (some ⟨w.heap.size + 1,0,none⟩) (r * c) (r * c)]) ?_ rfl ?_
 ·simp only [results,hres]
  go_simp
 ·exact ⟨w.heap.size + 1,rfl,by omega,(HP.out _).1,(HP.out _).2⟩
def ownB (va:Option Addr):Option Nat:=va.map Addr.block
theorem ownB_eq (va:Option Addr) (n c:Nat):(Value.slice va n c).ownBlock = ownB va:=by cases va <;> rfl
def tabV (F:Fe) (g:Nat):List Value:=[I J (nC F:Int),.slice (some ⟨g,0,none⟩) (nN F) (nN F)]
def tabRow (F:Fe) (gs:List Nat):List Value:=gs.flatMap (tabV F)
theorem tabRow_get {F:Fe}:∀ {gs:List Nat} {k g:Nat},gs[k]? = some g -> (tabRow F gs)[k * 2]? = some (I J (nC F:Int)) /\ (tabRow F gs)[k * 2 + 1]? = some (.slice (some ⟨g,0,none⟩) (nN F) (nN F))
 | [],k,g,h=>by cases k <;> cases h
 | x :: r,0,g,h=>by
   cases h
   exact ⟨rfl,rfl⟩
 | x :: r,k + 1,g,h=>by
   have:=tabRow_get (F:=F) (gs:=r) (k:=k) (g:=g) (by simpa using h)
   unfold tabRow at this ⊢
   rw [List.flatMap_cons,show (k + 1) * 2 = k * 2 + 1 + 1 by omega]
   exact this
theorem tabRow_snoc (F:Fe) (gs:List Nat) (g:Nat):tabRow F (gs ++ [g]) = tabRow F gs ++ tabV F g:=by unfold tabRow; rw [List.flatMap_append]; simp
theorem tab_one (F:Fe) (g:Nat):∀ u ∈ tabV F g,u.oneCell' = true:=by
 intro u hu
 simp [tabV] at hu
 rcases hu with rfl | rfl <;> rfl
def wbCells (F:Fe) (A:Fx) (v:Value) (hb:Nat):Array Value:=
 #[I J F.r.letters,.slice A.d.a A.d.n A.d.c,.slice A.s.a A.s.n A.s.c,I J F.r.beg,I J F.r.fin,I J F.r.front,I J F.r.back,.bool F.r.banded,I J F.r.lo,I J F.r.hi,.slice A.t.a A.t.n A.t.c,.slice A.v.a A.v.n A.v.c,.slice A.x.a A.x.n A.x.c,.slice A.y.a A.y.n A.y.c,
   v,I J (nC F:Int),.slice (some ⟨hb,0,none⟩) (nN F) (nN F)]
/-- The work with some of its tables. -/
structure Wb (w0:World) (F:Fe) (A:Fx) (b hb B:Nat) (gs:List Nat) (no:Option Addr) (nc:Nat) (w:World):Prop where
 low:Below w0.heap.size w0 w
 box:w.heap[b]? = some (.cells (wbCells F A (.slice no gs.length nc) hb) 112 (0,0))
 row:w.ownsRow B 114 2 (.slice no gs.length nc) gs.length (tabRow F gs)
 tabs:∀ g ∈ gs,rowI w g (nN F) (fun _=>0) /\ w0.heap.size <= g /\ g ≠ b /\ g ≠ hb /\ ownB no ≠ some g
 two:gs.Nodup
 hav:rowU w hb (nN F) (fun _=>0)
 new:w0.heap.size <= hb /\ w0.heap.size <= b /\ hb ≠ b
 big:b < B /\ hb < B /\ B <= w.heap.size /\ w0.heap.size <= B
section
variable {w0 w:World} {F:Fe} {A:Fx} {b hb B:Nat} {gs:List Nat} {no:Option Addr} {nc:Nat}
theorem Wb.below {w':World} (h:Wb w0 F A b hb B gs no nc w) (h2:Below w.heap.size w w'):Wb w0 F A b hb B gs no nc w':=
 ⟨h.low.trans (h2.mono h.low.size),by rw [h2.block _ (lt_block h.box)]; exact h.box,owned_below h.row h2,fun g hg=>⟨(h.tabs g hg).1.of_block (h2.block _ (h.tabs g hg).1.lt),(h.tabs g hg).2⟩,h.two,h.hav.of_block (h2.block _ h.hav.lt),h.new,⟨h.big.1,h.big.2.1,Nat.le_trans h.big.2.2.1 h2.size,h.big.2.2.2⟩⟩
theorem Wb.c14 (h:Wb w0 F A b hb B gs no nc w):w.cell? ⟨b,14,none⟩ = some (.slice no gs.length nc):=blk h.box rfl
theorem Wb.own (h:Wb w0 F A b hb B gs no nc w):∀ g,ownB no = some g -> B <= g /\ g < w.heap.size:=fun g hg=>h.row.lt g (by rw [ownB_eq]; exact hg)
theorem Wb.add (h:Wb w0 F A b hb B gs no nc w) {g:Nat} {o:Obj} {v':Value} {w4:World} (hg:rowI w g (nN F) (fun _=>0)) (hgB:B <= g) (hgn:g ∉ gs) (hgo:ownB no ≠ some g) (ho:w4.ownsRow B 114 2 v' (gs.length + 1) (tabRow F gs ++ tabV F g))
 (hgr:(w.alloc o).grownBy w4 (Value.slice no gs.length nc).ownBlock) (hnew:∀ g,v'.ownBlock = some g -> some g = (Value.slice no gs.length nc).ownBlock \/ (w.alloc o).heap.size <= g) :
 w4.cell? ⟨b,14,none⟩ = some (.slice no gs.length nc) /\ w4.frozen? ⟨b,14,none⟩ = false /\ ∃ no' nc',v' = .slice no' (gs.length + 1) nc' /\ Wb w0 F A b hb B (gs ++ [g]) no' nc' (w4.setCell ⟨b,14,none⟩ v'):=by
 rw [ownB_eq] at hgr hnew
 have hal:(w.alloc o).heap.size = w.heap.size + 1:=by simp
 have hbl:b < w.heap.size:=lt_block h.box
 have hkeep:∀ k,k < w.heap.size -> ownB no ≠ some k -> w4.heap[k]? = w.heap[k]?:=fun k hk hne=>by
  rw [hgr.block k (by omega) (fun e=>hne e.symm)]
  exact blk_alloc_lt _ _ _ hk
 have hbn:ownB no ≠ some b:=fun e=>by have:=(h.own _ e).1; have:=h.big.1; omega
 have hhn:ownB no ≠ some hb:=fun e=>by have:=(h.own _ e).1; have:=h.big.2.1; omega
 have b1:w4.heap[b]? = some (.cells (wbCells F A (.slice no gs.length nc) hb) 112 (0,0)):=by rw [hkeep b hbl hbn]; exact h.box
 obtain ⟨no',nc',rfl⟩:=owned_shape ho
 rw [ownB_eq] at hnew
 have hB:B <= w4.heap.size:=by have:=h.big.2.2.1; have:=hgr.size; omega
 have hgl:=hg.lt
 have hne':∀ k,k < w.heap.size -> ownB no ≠ some k -> ownB no' ≠ some k:=fun k hk hne e=>by
  rcases hnew k e with h1 | h1
  ·exact hne h1.symm
  ·omega
 have hgb:g ≠ b:=by have:=h.big.1; omega
 refine ⟨blk b1 rfl,blkf 14 b1,no',nc',rfl,⟨?_,?_,?_,?_,?_,?_,h.new,?_⟩⟩
 ·refine below_set ⟨hgr.os.trans h.low.os,hgr.tape.trans h.low.tape,hgr.output.trans h.low.output,by have:=hgr.size; have:=h.low.size; omega,fun k hk=>?_⟩ (a:=⟨b,14,none⟩) h.new.2.1 _
  rw [hkeep k (Nat.lt_of_lt_of_le hk h.low.size) (fun e=>by have:=(h.own _ e).1; have:=h.big.2.2.2; omega)]
  exact h.low.block k hk
 ·have:=heap_setCell_same w4 b 14 _ 112 (.slice no' (gs.length + 1) nc') b1
  rw [this,List.length_append]
  rfl
 ·rw [tabRow_snoc,List.length_append]
  exact ownsRow_setCell_below ho (a:=⟨b,14,none⟩) (by show b < B; exact h.big.1) _
 ·intro k hk
  rcases List.mem_append.1 hk with hk | hk
  ·obtain ⟨t1,t2,t3,t4,t5⟩:=h.tabs k hk
   exact ⟨(t1.of_block (hkeep k t1.lt t5)).setOther t3 _,t2,t3,t4,hne' k t1.lt t5⟩
  ·rw [List.mem_singleton.1 hk]
   exact ⟨(hg.of_block (hkeep g hgl hgo)).setOther hgb _,by have:=h.big.2.2.2; omega,hgb,by have:=h.big.2.1; omega,hne' g hgl hgo⟩
 ·rw [List.nodup_append]
  exact ⟨h.two,by simp,fun x hx y hy=>by rw [List.mem_singleton.1 hy]; exact fun e=>hgn (e ▸ hx)⟩
 ·exact (h.hav.of_block (hkeep hb h.hav.lt hhn)).setOther h.new.2.2 _
 ·refine ⟨h.big.1,h.big.2.1,?_,h.big.2.2.2⟩
  rw [nblk_setCell]
  exact hB
/-- All tables are there: the work, with nothing in it. -/
theorem Wb.done (h:Wb w0 F A b hb B gs no nc w) (hm:FcM w0 F A) (hok:FeOk F) (hl:gs.length = F.r.states.length + 1):∃ p:Wp,p.b = b /\ Wk w0 F A p w (fun _ _ _=>none):=by
 rcases h.row.2 with ⟨h1,h2⟩ | ⟨nb,cap,cur,h1,h2,h3,h4⟩
 ·omega
 ·cases h1
  have hget:∀ k,k <= F.r.states.length -> gs[k]? = some (gs.getD k 0):=fun k hk=>by
   rw [List.getD_eq_getElem?_getD,List.getElem?_eq_getElem (by omega)]
   rfl
  have hmem:∀ k,k <= F.r.states.length -> gs.getD k 0 ∈ gs:=fun k hk=>List.mem_of_getElem? (hget k hk)
  refine ⟨⟨b,nb,nc,hb,fun k=>gs.getD k 0⟩,rfl,⟨h.low,hm,hok,?_,fun k hk=>?_,⟨fun _ _=>0,fun _=>0,fun k hk=>(h.tabs _ (hmem k hk)).1,h.hav,fun _=>by show 0 < 1024; omega,fun i j k _ _ _=>?_⟩,fun _ _ _ _=>rfl,fun k hk=>?_,⟨h.new.1,h.new.2.2,?_⟩,fun k l hk hl' hne e=>?_⟩⟩
  ·have:=h.box
   rw [hl] at this
   exact this
  ·have hc:=tabRow_get (F:=F) (hget k hk)
   refine ⟨?_,?_⟩
   ·rw [h.row.cellAt (k * 2) (by omega)]; exact hc.1
   ·rw [h.row.cellAt (k * 2 + 1) (by omega)]; exact hc.2
  ·refine ⟨has_zero _,fun v hv=>by cases hv⟩
  ·obtain ⟨t1,t2,t3,t4,t5⟩:=h.tabs _ (hmem k hk)
   exact ⟨t2,t3,fun e=>t5 (congrArg some (show nb = gs.getD k 0 from e.symm)),t4⟩
  ·have:=h.big.2.1
   show hb ≠ nb
   omega
  ·have h1':=hget k hk
   have h2':=hget l hl'
   simp only at e
   rw [<- e] at h2'
   exact hne ((List.getElem?_inj (i:=k) (by omega) h.two).1 (h1'.trans h2'.symm))
end
set_option maxRecDepth 20000
set_option maxHeartbeats 4000000
/-- A field's cells, all of them. -/
def FcC (b:Nat) (F:Fe) (A:Fx) (w:World):Prop:=w.cell? ⟨b,0,none⟩ = some (I J F.r.letters) /\ w.cell? ⟨b,1,none⟩ = some (.slice A.d.a A.d.n A.d.c) /\ w.cell? ⟨b,2,none⟩ = some (.slice A.s.a A.s.n A.s.c) /\ w.cell? ⟨b,3,none⟩ = some (I J F.r.beg) /\ w.cell? ⟨b,4,none⟩ = some (I J F.r.fin) /\ w.cell? ⟨b,5,none⟩ = some (I J F.r.front) /\ w.cell? ⟨b,6,none⟩ = some (I J F.r.back) /\ w.cell? ⟨b,7,none⟩ = some (.bool F.r.banded) /\ w.cell? ⟨b,8,none⟩ = some (I J F.r.lo) /\ w.cell? ⟨b,9,none⟩ = some (I J F.r.hi) /\ w.cell? ⟨b,10,none⟩ = some (.slice A.t.a A.t.n A.t.c) /\ w.cell? ⟨b,11,none⟩ = some (.slice A.v.a A.v.n A.v.c) /\ w.cell? ⟨b,12,none⟩ = some (.slice A.x.a A.x.n A.x.c) /\ w.cell? ⟨b,13,none⟩ = some (.slice A.y.a A.y.n A.y.c)
theorem FcC.below {b:Nat} {F:Fe} {A:Fx} {w w':World} (h:FcC b F A w) (hb:Below w.heap.size w w'):FcC b F A w':=by
 obtain ⟨h0,h1,h2,h3,h4,h5,h6,h7,h8,h9,h10,h11,h12,h13⟩:=h
 exact ⟨keepc hb h0,keepc hb h1,keepc hb h2,keepc hb h3,keepc hb h4,keepc hb h5,keepc hb h6,keepc hb h7,keepc hb h8,keepc hb h9,keepc hb h10,keepc hb h11,keepc hb h12,keepc hb h13⟩
theorem FcC.at {b:Nat} {F:Fe} {A:Fx} {w:World} (h:FcC b F A w) (hm:FcM w F A):FcAt w b F A:=by
 obtain ⟨h0,h1,h2,h3,h4,h5,h6,h7,h8,h9,h10,h11,h12,h13⟩:=h
 exact ⟨hm,h0,h2,h3,h4,h5,h6,h7,h8,h9,h10,h11,h12,h13⟩
theorem Wb.start {w0 W:World} {F:Fe} {A:Fx} {hb:Nat} (hl:Below w0.heap.size w0 W) (hg:w0.heap.size <= hb) (hr:rowU W hb (nN F) (fun _=>0)) :
 Wb w0 F A W.heap.size hb (W.heap.size + 1) [] none 0 (W.alloc (.cells (wbCells F A (.slice none 0 0) hb) 112)):=by
 have hlt:=hr.lt
 exact ⟨hl.alloc hl.size _,heap_alloc_new W _,⟨rfl,.inl ⟨rfl,rfl⟩⟩,fun g hg=>absurd hg (by simp),List.nodup_nil,hr.alloc _,⟨hg,hl.size,by omega⟩,⟨by omega,by omega,by simp,by have:=hl.size; omega⟩⟩
theorem Wk.congr {w0 w:World} {F:Fe} {A:Fx} {p:Wp} {G G':Tb} (h:Wk w0 F A p w G) (he:∀ i j:Nat,∀ s:Int,i <= F.xs.length -> j <= F.ys.length -> G i j s = G' i j s) (hn:∀ i j s,i < 0 \/ j < 0 -> G' i j s = none):Wk w0 F A p w G':=by
 obtain ⟨T,H,h1,h2,h3,h4⟩:=h.data
 refine ⟨h.low,h.mem,h.ok,h.box,h.nums,⟨T,H,h1,h2,h3,fun i j k hi hj hk=>?_⟩,hn,h.new,h.newh,h.two⟩
 rw [<- he i j _ hi hj]
 exact h4 i j k hi hj hk
/-- What is filled when a cell is come to. -/
def partE (F:Fe) (i j:Int):Tb:=fun a b s=>if b <= F.ys.length /\ (a < i \/ (a = i /\ b < j)) then vlE F a b s else none
theorem part_ready (F:Fe) (i j:Int):Ready F (partE F i j) i j:=
 ⟨fun a b s h1 h2=>by unfold partE; rw [if_pos ⟨h2,h1⟩],fun s=>by unfold partE; rw [if_neg (by omega)]⟩
theorem part_fill {F:Fe} {i j:Int} (hj:j <= F.ys.length):fillE F (partE F i j) i j = partE F i (j + 1):=by
 funext a b s
 unfold fillE partE
 by_cases e:a = i /\ b = j
 ·rw [if_pos e,if_pos (by omega),e.1,e.2]
 ·rw [if_neg e]
  by_cases h:b <= F.ys.length /\ (a < i \/ (a = i /\ b < j))
  ·rw [if_pos h,if_pos (by omega)]
  ·rw [if_neg h,if_neg (by omega)]
theorem part_off {F:Fe} {i j:Int} (h:bandE F.r i j = false):partE F i j = partE F i (j + 1):=by
 funext a b s
 unfold partE
 by_cases h1:b <= F.ys.length /\ (a < i \/ (a = i /\ b < j))
 ·rw [if_pos h1,if_pos (by omega)]
 ·rw [if_neg h1]
  split
  ·have e1:a = i:=by omega
   have e2:b = j:=by omega
   rw [e1,e2,vlE_off h]
  ·rfl
theorem part_row {F:Fe} {i:Int}:partE F i (F.ys.length + 1) = partE F (i + 1) 0:=by
 funext a b s
 unfold partE
 by_cases h1:b <= F.ys.length /\ (a < i \/ (a = i /\ b < F.ys.length + 1))
 ·rw [if_pos h1,if_pos (by omega)]
 ·rw [if_neg h1]
  split
  ·rw [vlE_neg (by omega)]
  ·rfl
theorem part_none {F:Fe}:partE F 0 0 = fun _ _ _=>none:=by
 funext a b s
 unfold partE
 split
 ·rw [vlE_neg (by omega)]
 ·rfl
/-- A call of a function, as one step of a statement that leaves its order open. -/
theorem step_fn {P:Program} {ops:Array Oper} {o:Oper} {a:Act} {w:World} {K:Act -> World -> Prop} {Q:Exit -> Act -> World -> Prop} {E:Prop}
 (hg:o.guard = none) (f:FuncId) (args:Array Operand) (tys:Array TypeId) (hop:o.op = Op.call { callee:=Callee.value (Operand.func f),args:=args,argTypes:=tys })
 (fn:Func) (hf:P.funcs[f]? = some fn) (hname:(fn.name == "runtime.NumGoroutine") = false) (hbody:fn.body.isNone = false)
 (vs:Array Value) (hvs:args.map a.eval = vs) {R:Ending -> World -> Prop} (hc:Calls P f vs w R) (hR:∀ e w',R e w' -> ∃ v,e = .returned v /\ K (a.put o.dst v) w') :
 if Region.wanted o (yielded ops a.tmps) = true then Oper.wp P o a w K Q else E:=by
 have hw:Region.wanted o (yielded ops a.tmps) = true:=by simp [Region.wanted,hg]
 rw [if_pos hw]
 unfold Oper.wp
 have hrun:(execOp a.eval o).run P w = .ok (.enter f vs) w:=by
  have h1:¬ fn.name = "runtime.NumGoroutine":=by simpa using hname
  have h2:¬ fn.body = none:=fun e=>by rw [e] at hbody; cases hbody
  simp [execOp,hop,resolve,invoke,hvs,Act.eval,go_sem,callFunc,hf,h1,h2]
 rw [hrun,Oper.upon_enter]
 refine hc.mono ?_
 intro e w' h
 obtain ⟨v,rfl,hk⟩:=hR e w' h
 exact hk
theorem f53_name:(Tryz.f41.name == "runtime.NumGoroutine") = false:=by kernel_rfl
theorem f53_body:Tryz.f41.body.isNone = false:=by kernel_rfl
theorem tab_new (W:World) (F:Fe) (g:Nat):∀ (i:Nat) (u:Value),(tabV F g)[i]? = some u -> (W.alloc (.cells #[I J (nC F:Int),.slice (some ⟨g,0,none⟩) (nN F) (nN F)] 114)).cell? ((⟨W.heap.size,0,none⟩:Addr).add i) = some u:=cells_new W (tabV F g) 114
theorem info140:(Tryz.prog.info? 114).map (fun i=>(i.zero,i.size,i.bytes)) = some (some (.agg #[I J 0,.slice none 0 0]),2,32):=by kernel_rfl
theorem workOut_calls {F:Fe} {A:Fx} {b:Nat} (w:World) (h:FcC b F A w) (hm:FcM w F A) (hok:FeOk F) :
 Calls Tryz.prog 19 #[.pointer (some ⟨b,0,none⟩)] w fun e w'=>∃ p:Wp,e = .returned (.pointer (some ⟨p.b,0,none⟩)) /\ Wk w F A p w' (vlE F):=by
 have hxl:=hm.xs.length
 have hyl:=hm.ys.length
 have htl:=hm.states.length
 have hlx:=hok.lx
 have hly:=hok.ly
 have hfew:=hok.few
 have hcl:=hok.cells
 rw [hxl] at hlx
 rw [hyl] at hly
 rw [htl] at hfew
 have eC:nC F = A.y.n + 1:=by unfold nC; rw [hyl]
 have eN:nN F = (A.x.n + 1) * (A.y.n + 1):=by unfold nN; rw [hxl,hyl]
 have HC52:Hid (∀ W,Calls Tryz.prog 40 #[I J ((A.x.n:Int) + 1),I J ((A.y.n:Int) + 1)] W fun e w'=>∃ g,e = .returned (.agg #[I J (nC F:Int),.slice (some ⟨g,0,none⟩) (nN F) (nN F)]) /\ W.heap.size <= g /\ Below W.heap.size W w' /\ rowU w' g (nN F) (fun _=>0)):=fun W=>by
  rw [eC,eN]; exact tableU_calls (A.x.n + 1) (A.y.n + 1) W (by rw [<- hxl,<- hyl]; exact hcl)
 have HC53:Hid (∀ W,Calls Tryz.prog 41 #[I J ((A.x.n:Int) + 1),I J ((A.y.n:Int) + 1)] W fun e w'=>∃ g,e = .returned (.agg #[I J (nC F:Int),.slice (some ⟨g,0,none⟩) (nN F) (nN F)]) /\ W.heap.size <= g /\ Below W.heap.size W w' /\ rowI w' g (nN F) (fun _=>0)):=fun W=>by
  rw [eC,eN]; exact tableI_calls (A.x.n + 1) (A.y.n + 1) W (by rw [<- hxl,<- hyl]; exact hcl)
 have HF:Hid (FcC b F A w /\ FcM w F A /\ FeOk F):=⟨h,hm,hok⟩
 have hb:b < w.heap.size:=World.block_lt_of_cell? w _ h.1
 have x12:=h.2.2.2.2.2.2.2.2.2.2.2.2.1
 have x13:=h.2.2.2.2.2.2.2.2.2.2.2.2.2
 have HT:Hid (∀ U V,Below w.heap.size w U -> Below U.heap.size U V -> Below w.heap.size w V):=fun U V h1 h2=>h1.trans (h2.mono h1.size)
 have HL:Hid (F.xs.length = A.x.n /\ F.ys.length = A.y.n /\ F.r.states.length = A.t.n):=⟨hxl,hyl,htl⟩
 clear h hm hok hcl eC eN hxl hyl htl
 go_enter Tryz.func19,Tryz.ntmps19
 go_upto_region 1 with (fail)
 go_quiet (fail)
 have HB1:Hid (Below w.heap.size w (w.drewN nq)):=below_dn (Below.refl _ _) _
 generalize w.drewN nq = w1 at *
 clear x12 x13
 have HX:Hid (∀ W,Below w.heap.size w W -> FcC b F A W):=fun W hW=>HF.out.1.below hW
 have HY:=HX.out w1 HB1.out
 obtain ⟨y0,y1,y2,y3,y4,y5,y6,y7,y8,y9,y10,y11,y12,y13⟩:=HY
 have hb1:b < w1.heap.size:=World.block_lt_of_cell? w1 _ y0
 go_upto_region 2 with (fail)
 go_cut [5] (fun v wc=>∃ b' hb B,v = .pointer (some ⟨b',0,none⟩) /\ Wb w F A b' hb B [] none 0 wc)
 case first=>
  have D0:Hid (Below w.heap.size w w1.drew):=HB1.out.drew
  go_region_held3 (fun W=>W.cell? ⟨b,0,none⟩ = some (I J F.r.letters) /\ W.cell? ⟨b,1,none⟩ = some (.slice A.d.a A.d.n A.d.c) /\ W.cell? ⟨b,2,none⟩ = some (.slice A.s.a A.s.n A.s.c) /\ W.cell? ⟨b,3,none⟩ = some (I J F.r.beg) /\ W.cell? ⟨b,4,none⟩ = some (I J F.r.fin) /\ W.cell? ⟨b,5,none⟩ = some (I J F.r.front) /\ W.cell? ⟨b,6,none⟩ = some (I J F.r.back) /\ W.cell? ⟨b,7,none⟩ = some (.bool F.r.banded) /\ W.cell? ⟨b,8,none⟩ = some (I J F.r.lo) /\ W.cell? ⟨b,9,none⟩ = some (I J F.r.hi) /\ W.cell? ⟨b,10,none⟩ = some (.slice A.t.a A.t.n A.t.c) /\ W.cell? ⟨b,11,none⟩ = some (.slice A.v.a A.v.n A.v.c) /\ W.cell? ⟨b,12,none⟩ = some (.slice A.x.a A.x.n A.x.c) /\ W.cell? ⟨b,13,none⟩ = some (.slice A.y.a A.y.n A.y.c)) (first | exact ⟨y0,y1,y2,y3,y4,y5,y6,y7,y8,y9,y10,y11,y12,y13⟩ | exact HX.out _ D0.out | exact HX.out _ HV | exact HX.out _ (HV.alloc HV.size _) | exact HX.out _ (HV.alloc HV.size _).drew | exact HX.out _ HV.drew) (first
   | (go_at_call 40; refine (HC52.out _).mono ?_; rintro e V1 ⟨g,rfl,hg,hv1,hrow⟩; have HV:=HT.out _ _ (by first | exact HB1.out | exact D0.out) hv1))
  all_goals (go_wp2_with fail; go_meet; exact ⟨_,g,_,rfl,Wb.start HV (Nat.le_trans (by first | exact HB1.out.size | exact D0.out.size) hg) hrow⟩)
 case rest=>
  obtain ⟨b',hb',B,rfl,hwb⟩:=hcut
  have HW0:Hid (Wb w F A b' hb' B [] none 0 wc):=hwb
  obtain ⟨z0,-,-,-,-,-,-,-,-,-,z10,-,-,-⟩:=HX.out wc hwb.low
  have hbc:b < wc.heap.size:=World.block_lt_of_cell? wc _ z0
  clear hwb y0 y1 y2 y3 y4 y5 y6 y7 y8 y9 y10 y11 y12 y13 hb1 HB1 HC52
  go_wp2
  clear z0 z10 hbc
  go_loopw [35] (fun iv wr=>∃ (q:Nat) (gs:List Nat) (no:Option Addr) (nc:Nat),q <= A.t.n + 1 /\ iv = I J q /\ Hid (gs.length = q /\ Wb w F A b' hb' B gs no nc wr)) (fun i _=>A.t.n + 1 - (intOf i).toNat)
  case atStart=>exact ⟨0,[],none,0,Nat.zero_le _,rfl,rfl,HW0.out⟩
  case round=>
   clear HW0
   obtain ⟨q,gs,no,nc,hq,rfl,HW⟩:=hrel
   by_cases hlt:q < A.t.n + 1
   ·have hql:=HW.out.1
    have x14:=HW.out.2.c14
    have hb1:b' < wr.heap.size:=lt_block HW.out.2.box
    have HD:Hid (Wb w F A b' hb' B gs no nc wr.drew):=HW.out.2.below (Below.refl _ _).drew
    have x14d:=HD.out.c14
    rw [hql] at x14 x14d
    obtain ⟨i140,hi,hz0,hz1,hz2⟩:=info_parts info140
    have HWa:Hid (∀ W o,Wb w F A b' hb' B gs no nc W -> Wb w F A b' hb' B gs no nc (W.alloc o)):=fun W o hW=>hW.below ((Below.refl _ _).alloc (Nat.le_refl _) o)
    have HN:Hid (∀ (W:World) (g:Nat) (o:Obj) (v':Value) (w4:World),Wb w F A b' hb' B gs no nc W -> wr.heap.size <= g -> rowI W g (nN F) (fun _=>0) -> w4.ownsRow B 114 2 v' (q + 1) (tabRow F gs ++ tabV F g) -> (W.alloc o).grownBy w4 (Value.slice no q nc).ownBlock -> (∀ g,v'.ownBlock = some g -> some g = (Value.slice no q nc).ownBlock \/ (W.alloc o).heap.size <= g) ->
     w4.cell? ⟨b',14,none⟩ = some (.slice no q nc) /\ w4.frozen? ⟨b',14,none⟩ = false /\ ∃ no' nc',v' = .slice no' (q + 1) nc' /\ Wb w F A b' hb' B (gs ++ [g]) no' nc' (w4.setCell ⟨b',14,none⟩ v')):=fun W g o v' w4 hW hg hr ho hgr hnew=>by
     have hw:=HW.out.2
     have:=hW.add hr (by have:=hw.big.2.2.1; omega) (fun hm=>by have:=(hw.tabs g hm).1.lt; omega) (fun e=>by have:=(hw.own g e).2; omega) (by rw [hql]; exact ho) (by rw [hql]; exact hgr) (by rw [hql]; exact hnew)
     rw [hql] at this
     exact this
    have HRow:Hid (∀ W o,Wb w F A b' hb' B gs no nc W -> (W.alloc o).ownsRow B 114 2 (.slice no q nc) q (tabRow F gs) /\ B <= (W.alloc o).heap.size):=fun W o hW=>by
     have h2:=hW.below ((Below.refl _ _).alloc (Nat.le_refl _) o)
     have h3:=h2.row
     rw [hql] at h3
     exact ⟨h3,h2.big.2.2.1⟩
    go_upto_region 5 with (fail)
    go_wp2_with fail
    go_region_law (first
     | (refine step_fn rfl 41 _ _ rfl Tryz.f41 Tryz.func41 f53_name f53_body #[I J ((A.x.n:Int) + 1),I J ((A.y.n:Int) + 1)] (by simp [Act.eval,Act.put]) (HC53.out _) ?_
        rintro e V1 ⟨g,rfl,hg,hv1,hrow⟩
        have HV:=Wb.below (by first | exact HW.out.2 | exact HD.out) hv1
        have hV14:=HV.c14
        have hVd14:=(HV.below (Below.refl _ _).drew).c14
        have hgl:wr.heap.size <= g:=hg
        have hVb:b' < V1.heap.size:=lt_block HV.box
        rw [hql] at hV14 hVd14
        refine ⟨_,rfl,?_⟩)
     | (refine step_append_fresh rfl (.tmp 41) (.tmp 45) 110 rfl B 114 i140 _ 2 32 Tryz.underlying110 hi hz0 hz1 hz2 rfl (by decide) _ q (tabRow F gs) (by simp [Act.eval]) (HRow.out V1 _ HV).1 ⟨_,0,none⟩ 1 1 (tabV F g) (by simp [Act.eval]) rfl (tab_new V1 F g) (tab_one F g) (by unfold maxLen; omega) (by omega) (HRow.out V1 _ HV).2 ?_
        intro v' w4 ho hgr hnew
        obtain ⟨k1,k2,k3⟩:=HN.out V1 g _ v' w4 HV hgl hrow ho hgr hnew
        obtain ⟨no',nc',rfl⟩:=owned_shape ho
        clear ho hgr hnew))
    all_goals (
     have HK:Hid (Wb w F A b' hb' B (gs ++ [g]) no' nc' (w4.setCell ⟨b',14,none⟩ (.slice no' (q + 1) nc'))):=by
      obtain ⟨no2,nc2,q3,q4⟩:=k3
      cases q3
      exact q4
     clear k3
     go_wp2
     go_roundw
     case rel=>exact ⟨q + 1,gs ++ [g],no',nc',by omega,by go_num,by rw [List.length_append,hql]; rfl,HK.out⟩
     case measure=>simp [intOf]; omega)
   ·have hqe:q = A.t.n + 1:=by omega
    obtain ⟨p,hpb,hwk⟩:=HW.out.2.done HF.out.2.1 HF.out.2.2 (by rw [HW.out.1,HL.out.2.2]; exact hqe)
    subst hpb
    rw [<- part_none] at hwk
    have HK:Hid (Wk w F A p wr (partE F 0 0)):=hwk
    clear hwk HW hqe
    have HFi:Hid (∀ W (i j:Nat),Wk w F A p W (partE F i j) -> i <= A.x.n -> j <= A.y.n -> bandE F.r i j = true -> Calls Tryz.prog 43 #[.pointer (some ⟨p.b,0,none⟩),I J (i:Int),I J (j:Int)] W fun e w'=>e = .returned (.tuple #[]) /\ Wk w F A p w' (partE F i ((j:Int) + 1))):=fun W i j hW hi hj hbd=>by
     rw [<- HL.out.1] at hi
     rw [<- HL.out.2.1] at hj
     have:=fill_calls i j W hW (part_ready F i j) hbd hi hj
     rw [part_fill (by omega)] at this
     exact this
    have HBd:Hid (∀ W (i j:Nat),Below w.heap.size w W -> i <= A.x.n -> j <= A.y.n -> Calls Tryz.prog 42 #[.pointer (some ⟨b,0,none⟩),I J (i:Int),I J (j:Int)] W fun e w'=>e = .returned (.bool (bandE F.r i j)) /\ W = w'):=fun W i j hW hi hj=>inBand_calls i j W ((HX.out W hW).at (HF.out.2.1.below hW)) (by omega) (by omega)
    have HOff:Hid (∀ i j:Int,bandE F.r i j = false -> partE F i j = partE F i (j + 1)):=fun i j hf=>part_off hf
    have HRw:Hid (∀ i:Int,partE F i ((A.y.n:Int) + 1) = partE F (i + 1) 0):=fun i=>by rw [<- HL.out.2.1]; exact part_row
    have HEnd:Hid (∀ W,Wk w F A p W (partE F ((A.x.n:Int) + 1) 0) -> Wk w F A p W (vlE F)):=fun W hW=>by
     rw [<- HL.out.1] at hW
     refine hW.congr (fun i j s hi hj=>?_) (fun i j s hn=>vlE_neg hn)
     unfold partE
     rw [if_pos (by omega)]
    clear HF HL HX HC53 HT
    go_wp2
    go_loopw [6,7,51] (fun _ _ iv wr=>∃ i:Nat,i <= A.x.n + 1 /\ iv = I J i /\ Hid (Wk w F A p wr (partE F i 0))) (fun _ _ i _=>A.x.n + 1 - (intOf i).toNat)
    case atStart=>exact ⟨0,Nat.zero_le _,rfl,HK.out⟩
    case round=>
     clear HK
     obtain ⟨i,hi,rfl,HK⟩:=hrel
     by_cases hli:i < A.x.n + 1
     ·have ki:decide ((i:Int) < (A.x.n:Int) + 1) = true:=by simp; omega
      go_wp2
      go_loopw [7,55] (fun _ jv wr=>∃ j:Nat,j <= A.y.n + 1 /\ jv = I J j /\ Hid (Wk w F A p wr (partE F i j))) (fun _ j _=>A.y.n + 1 - (intOf j).toNat)
      case atStart=>exact ⟨0,Nat.zero_le _,rfl,HK.out⟩
      case round=>
       clear HK
       obtain ⟨j,hj,rfl,HK⟩:=hrel
       by_cases hlj:j < A.y.n + 1
       ·go_wp2_with fail
        refine (HBd.out _ i j HK.out.low (by omega) (by omega)).mono ?_
        rintro e w2 ⟨rfl,rfl⟩
        cases hbd:bandE F.r i j with
        | false=>
          have HK2:Hid (Wk w F A p wr (partE F i ((j:Int) + 1))):=by show Wk w F A p wr (partE F i ((j:Int) + 1)); rw [<- HOff.out i j hbd]; exact HK.out
          clear hbd HK
          go_wp2
          go_roundw
          case rel=>exact ⟨j + 1,by omega,by go_num,HK2.out⟩
          case measure=>simp [intOf]; omega
        | true=>
          go_wp2_with fail
          refine (HFi.out _ i j HK.out (by omega) (by omega) hbd).mono ?_
          rintro e w3 ⟨rfl,hw3⟩
          have HK2:Hid (Wk w F A p w3 (partE F i ((j:Int) + 1))):=hw3
          clear hbd HK hw3
          go_wp2
          go_roundw
          case rel=>exact ⟨j + 1,by omega,by go_num,HK2.out⟩
          case measure=>simp [intOf]; omega
       ·have hje:j = A.y.n + 1:=by omega
        have HK2:Hid (Wk w F A p wr (partE F ((i:Int) + 1) 0)):=by
         show Wk w F A p wr (partE F ((i:Int) + 1) 0)
         rw [<- HRw.out i]
         have:=HK.out
         rw [hje] at this
         exact this
        clear HK
        go_wp2
        go_roundw
        case rel=>exact ⟨i + 1,by omega,by go_num,HK2.out⟩
        case measure=>simp [intOf]; omega
     ·have hie:i = A.x.n + 1:=by omega
      have HK2:Hid (Wk w F A p wr (vlE F)):=HEnd.out _ (by have:=HK.out; rw [hie] at this; exact this)
      clear HK
      go_wp2
      go_ret
      exact ⟨p,rfl,HK2.out⟩
end Go.Proofs.YtbbbnopganhebabGreat
