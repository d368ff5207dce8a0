/-
  The document's small ones: defs. CheckValues: the walk.
-/
import Derived.Test.YtlaodgdlkkmmeaaGreatG47
import Derived.Test.YtlaodgdlkkmmeaaGreatG48
namespace Go.Proofs.YtlaodgdlkkmmeaaGreat
open Go.RowKit Go.Deep Go.Maps
open Go.Value renaming int->I
open Go.IntKind renaming i64->J
set_option maxRecDepth 20000
set_option maxHeartbeats 400000
def dfT (d:Df):Int × Int × Int × Int:=(d.op,d.num,d.a,d.b)
theorem neq_df {xs ys:List Df} {k:Nat} {p q:Df} (hp:xs[k]? = some p) (hq:ys[k]? = some q) (h:dfT p ≠ dfT q):decide (xs.map dfT = ys.map dfT) = false:=
 neq_at (k:=k) (a:=dfT p) (b:=dfT q) (by rw [List.getElem?_map,hp]; rfl) (by rw [List.getElem?_map,hq]; rfl) h
theorem defs_calls (xs ys:List Df) (ao:Option Addr) (an ac:Nat) (bo:Option Addr) (bn bc:Nat) (w:World) (ha:DfsAt w ao an xs) (hb:DfsAt w bo bn ys) :
 Calls Tryz.prog 17 #[.slice ao an ac,.slice bo bn bc] w fun e w'=>e = .returned (.bool (decide (xs.map dfT = ys.map dfT))) /\ Below w.heap.size w w':=by
 have han:=ha.short
 have hbn:=hb.short
 unfold maxLen at han hbn
 have HA:Hid (DfsAt w ao an xs):=ha
 have HB:Hid (DfsAt w bo bn ys):=hb
 clear ha hb
 by_cases hl:an = bn
 ·subst hl
  have hd:((an:Int) == (an:Int)) = true:=by simp
  go_enter Tryz.func17,Tryz.ntmps17
  go_wp2
  go_loopw [5] (fun i wr=>∃ k:Nat,k <= an /\ i = I J k /\ (∀ j:Nat,j < k -> xs[j]? = ys[j]?) /\ Below w.heap.size w wr) (fun i _=>an - (intOf i).toNat)
  case atStart=>exact ⟨0,Nat.zero_le _,rfl,fun j hj=>by omega,Below.refl _ _⟩
  case round=>
   obtain ⟨k,hk,rfl,hall,hbl⟩:=hrel
   have HL:Hid ((∀ j:Nat,j < k -> xs[j]? = ys[j]?) /\ Below w.heap.size w wr):=⟨hall,hbl⟩
   clear hall hbl
   by_cases hlt:k < an
   ·obtain ⟨p,hp⟩:∃ p,xs[k]? = some p:=⟨xs[k]'(by rw [HA.out.length]; exact hlt),List.getElem?_eq_getElem _⟩
    obtain ⟨q,hq⟩:∃ q,ys[k]? = some q:=⟨ys[k]'(by rw [HB.out.length]; exact hlt),List.getElem?_eq_getElem _⟩
    obtain ⟨g1,o1,rfl,hcs1⟩:=HA.out.cells (by omega)
    obtain ⟨g2,o2,rfl,hcs2⟩:=HB.out.cells (by omega)
    obtain ⟨a0,a1,a2,a3⟩:=hcs1 k p hp
    obtain ⟨b0,b1,b2,b3⟩:=hcs2 k q hq
    have HK:Hid (xs[k]? = some p /\ ys[k]? = some q):=⟨hp,hq⟩
    clear hcs1 hcs2 hp hq
    have hF:∀ W,Below w.heap.size w W -> W.cell? ⟨g1,o1 + k * 4,none⟩ = some (I J p.op) /\ W.cell? ⟨g1,o1 + k * 4 + 1,none⟩ = some (I J p.num) /\ W.cell? ⟨g1,o1 + k * 4 + 2,none⟩ = some (I J p.a) /\ W.cell? ⟨g1,o1 + k * 4 + 3,none⟩ = some (I J p.b) /\ W.cell? ⟨g2,o2 + k * 4,none⟩ = some (I J q.op) /\ W.cell? ⟨g2,o2 + k * 4 + 1,none⟩ = some (I J q.num) /\ W.cell? ⟨g2,o2 + k * 4 + 2,none⟩ = some (I J q.a) /\ W.cell? ⟨g2,o2 + k * 4 + 3,none⟩ = some (I J q.b):=by
     intro W hW
     exact ⟨by rw [hW.cell (World.block_lt_of_cell? w _ a0)]; exact a0,by rw [hW.cell (World.block_lt_of_cell? w _ a1)]; exact a1,by rw [hW.cell (World.block_lt_of_cell? w _ a2)]; exact a2,by rw [hW.cell (World.block_lt_of_cell? w _ a3)]; exact a3,by rw [hW.cell (World.block_lt_of_cell? w _ b0)]; exact b0,by rw [hW.cell (World.block_lt_of_cell? w _ b1)]; exact b1,by rw [hW.cell (World.block_lt_of_cell? w _ b2)]; exact b2,by rw [hW.cell (World.block_lt_of_cell? w _ b3)]; exact b3⟩
    have HD:Hid (Below w.heap.size w wr.drew):=HL.out.2.drew
    obtain ⟨hc⟩:Nonempty (_):=⟨hF _ HL.out.2⟩
    obtain ⟨hd1⟩:Nonempty (_):=⟨hF _ HD.out⟩
    clear a0 a1 a2 a3 b0 b1 b2 b3 hF
    obtain ⟨p0,p1,p2,p3⟩:=p
    obtain ⟨q0,q1,q2,q3⟩:=q
    simp only at hc hd1
    by_cases h0:p0 = q0
    case neg=>
     have he:(p0 == q0) = false:=by simpa using h0
     have HE:Hid (decide (xs.map dfT = ys.map dfT) = false):=neq_df HK.out.1 HK.out.2 (fun e=>h0 (congrArg Prod.fst e))
     go_wp2_with fail
     go_region_held3 (fun W=>W.cell? ⟨g1,o1 + k * 4,none⟩ = some (I J p0) /\ W.cell? ⟨g1,o1 + k * 4 + 1,none⟩ = some (I J p1) /\ W.cell? ⟨g1,o1 + k * 4 + 2,none⟩ = some (I J p2) /\ W.cell? ⟨g1,o1 + k * 4 + 3,none⟩ = some (I J p3) /\ W.cell? ⟨g2,o2 + k * 4,none⟩ = some (I J q0) /\ W.cell? ⟨g2,o2 + k * 4 + 1,none⟩ = some (I J q1) /\ W.cell? ⟨g2,o2 + k * 4 + 2,none⟩ = some (I J q2) /\ W.cell? ⟨g2,o2 + k * 4 + 3,none⟩ = some (I J q3)) (first | with_reducible assumption | exact hc | exact hd1) (fail)
     rename_i hh
     clear hh hc hd1
     go_wp2
     go_ret
     rw [HE.out]; exact ⟨rfl,HD.out⟩
    subst h0
    have e0:(p0 == p0) = true:=by simp
    by_cases h1:p1 = q1
    case neg=>
     have he:(p1 == q1) = false:=by simpa using h1
     have HE:Hid (decide (xs.map dfT = ys.map dfT) = false):=neq_df HK.out.1 HK.out.2 (fun e=>h1 (congrArg (fun t:Int × Int × Int × Int=>t.2.1) e))
     go_wp2_with fail
     go_region_held3 (fun W=>W.cell? ⟨g1,o1 + k * 4,none⟩ = some (I J p0) /\ W.cell? ⟨g1,o1 + k * 4 + 1,none⟩ = some (I J p1) /\ W.cell? ⟨g1,o1 + k * 4 + 2,none⟩ = some (I J p2) /\ W.cell? ⟨g1,o1 + k * 4 + 3,none⟩ = some (I J p3) /\ W.cell? ⟨g2,o2 + k * 4,none⟩ = some (I J p0) /\ W.cell? ⟨g2,o2 + k * 4 + 1,none⟩ = some (I J q1) /\ W.cell? ⟨g2,o2 + k * 4 + 2,none⟩ = some (I J q2) /\ W.cell? ⟨g2,o2 + k * 4 + 3,none⟩ = some (I J q3)) (first | with_reducible assumption | exact hc | exact hd1) (fail)
     rename_i hh
     clear hh hc hd1
     go_wp2
     go_ret
     rw [HE.out]; exact ⟨rfl,HD.out⟩
    subst h1
    have e1:(p1 == p1) = true:=by simp
    by_cases h2:p2 = q2
    case neg=>
     have he:(p2 == q2) = false:=by simpa using h2
     have HE:Hid (decide (xs.map dfT = ys.map dfT) = false):=neq_df HK.out.1 HK.out.2 (fun e=>h2 (congrArg (fun t:Int × Int × Int × Int=>t.2.2.1) e))
     go_wp2_with fail
     go_region_held3 (fun W=>W.cell? ⟨g1,o1 + k * 4,none⟩ = some (I J p0) /\ W.cell? ⟨g1,o1 + k * 4 + 1,none⟩ = some (I J p1) /\ W.cell? ⟨g1,o1 + k * 4 + 2,none⟩ = some (I J p2) /\ W.cell? ⟨g1,o1 + k * 4 + 3,none⟩ = some (I J p3) /\ W.cell? ⟨g2,o2 + k * 4,none⟩ = some (I J p0) /\ W.cell? ⟨g2,o2 + k * 4 + 1,none⟩ = some (I J p1) /\ W.cell? ⟨g2,o2 + k * 4 + 2,none⟩ = some (I J q2) /\ W.cell? ⟨g2,o2 + k * 4 + 3,none⟩ = some (I J q3)) (first | with_reducible assumption | exact hc | exact hd1) (fail)
     rename_i hh
     clear hh hc hd1
     go_wp2
     go_ret
     rw [HE.out]; exact ⟨rfl,HD.out⟩
    subst h2
    have e2:(p2 == p2) = true:=by simp
    by_cases h3:p3 = q3
    case neg=>
     have he:(p3 == q3) = false:=by simpa using h3
     have HE:Hid (decide (xs.map dfT = ys.map dfT) = false):=neq_df HK.out.1 HK.out.2 (fun e=>h3 (congrArg (fun t:Int × Int × Int × Int=>t.2.2.2) e))
     go_wp2_with fail
     go_region_held3 (fun W=>W.cell? ⟨g1,o1 + k * 4,none⟩ = some (I J p0) /\ W.cell? ⟨g1,o1 + k * 4 + 1,none⟩ = some (I J p1) /\ W.cell? ⟨g1,o1 + k * 4 + 2,none⟩ = some (I J p2) /\ W.cell? ⟨g1,o1 + k * 4 + 3,none⟩ = some (I J p3) /\ W.cell? ⟨g2,o2 + k * 4,none⟩ = some (I J p0) /\ W.cell? ⟨g2,o2 + k * 4 + 1,none⟩ = some (I J p1) /\ W.cell? ⟨g2,o2 + k * 4 + 2,none⟩ = some (I J p2) /\ W.cell? ⟨g2,o2 + k * 4 + 3,none⟩ = some (I J q3)) (first | with_reducible assumption | exact hc | exact hd1) (fail)
     rename_i hh
     clear hh hc hd1
     go_wp2
     go_ret
     rw [HE.out]; exact ⟨rfl,HD.out⟩
    subst h3
    have e3:(p3 == p3) = true:=by simp
    go_wp2_with fail
    go_region_held3 (fun W=>W.cell? ⟨g1,o1 + k * 4,none⟩ = some (I J p0) /\ W.cell? ⟨g1,o1 + k * 4 + 1,none⟩ = some (I J p1) /\ W.cell? ⟨g1,o1 + k * 4 + 2,none⟩ = some (I J p2) /\ W.cell? ⟨g1,o1 + k * 4 + 3,none⟩ = some (I J p3) /\ W.cell? ⟨g2,o2 + k * 4,none⟩ = some (I J p0) /\ W.cell? ⟨g2,o2 + k * 4 + 1,none⟩ = some (I J p1) /\ W.cell? ⟨g2,o2 + k * 4 + 2,none⟩ = some (I J p2) /\ W.cell? ⟨g2,o2 + k * 4 + 3,none⟩ = some (I J p3)) (first | with_reducible assumption | exact hc | exact hd1) (fail)
    rename_i hh
    clear hh hc hd1
    go_wp2
    go_roundw
    case rel=>
     refine ⟨k + 1,by omega,by go_num,?_,HD.out⟩
     intro j hj
     by_cases e:j = k
     ·subst e; rw [HK.out.1,HK.out.2]
     ·exact HL.out.1 j (by omega)
    case measure=>simp [intOf]; omega
   ·have HE:Hid (decide (xs.map dfT = ys.map dfT) = true):=eq_all (n:=an) (by rw [List.length_map]; exact HA.out.length) (by rw [List.length_map]; exact HB.out.length) (fun j hj=>by rw [List.getElem?_map,List.getElem?_map,HL.out.1 j (by omega)])
    go_wp2
    go_ret
    rw [HE.out]; exact ⟨rfl,HL.out.2⟩
 ·have hd:((an:Int) == (bn:Int)) = false:=by simp; omega
  have HE:Hid (decide (xs.map dfT = ys.map dfT) = false):=neq_len (by rw [List.length_map,List.length_map,HA.out.length,HB.out.length]; exact hl)
  go_enter Tryz.func17,Tryz.ntmps17
  go_wp2
  go_ret
  rw [HE.out]; exact ⟨rfl,Below.refl _ _⟩
open Go.Value renaming int->I,slice->Γ
set_option maxRecDepth 100000
set_option maxHeartbeats 2000000
def zDf:Df:=⟨0,0,0,0⟩
theorem made_df (n:Nat):(madeCells #[I J 0,I J 0,I J 0,I J 0] n).toList = List.replicate n (I J 0):=by
 apply List.ext_getElem
 ·simp [madeCells]
 ·intro i h1 h2
  simp only [madeCells,Array.toList_map,List.getElem_map,List.getElem_replicate]
  have:i % 4 < 4:=Nat.mod_lt _ (by decide)
  have h:i % 4 = 0 \/ i % 4 = 1 \/ i % 4 = 2 \/ i % 4 = 3:=by omega
  rcases h with h | h | h | h <;> simp [h]
theorem zero_df:∀ m:Nat,List.replicate (m * 4) (Value.int .i64 0) = dfRow (List.replicate m zDf)
 | 0=>rfl
 | m + 1=>by
   rw [List.replicate_succ,show (m + 1) * 4 = m * 4 + 1 + 1 + 1 + 1 by omega,List.replicate_succ,List.replicate_succ,List.replicate_succ,List.replicate_succ,zero_df m]
   rfl
/-- The copy as far as it goes. -/
def cpL (l:List Df) (n k:Nat):List Df:=l.take k ++ List.replicate (n + 2 - k) zDf
theorem cpL_get (l:List Df) {n k:Nat} (hl:l.length = n) (hk:k < n):(cpL l n k)[k]? = some zDf:=by
 unfold cpL
 have h1:(l.take k).length = k:=by simp; omega
 rw [List.getElem?_append_right (by omega),h1,Nat.sub_self,List.getElem?_replicate,if_pos (by omega)]
theorem cpL_set (l:List Df) {n k:Nat} {d:Df} (hl:l.length = n) (hd:l[k]? = some d) (hk:k < n):(cpL l n k).set k d = cpL l n (k + 1):=by
 unfold cpL
 have h1:(l.take k).length = k:=by simp; omega
 rw [List.set_append_right _ _ (by omega),h1,Nat.sub_self]
 obtain ⟨h2,h3⟩:=List.getElem?_eq_some_iff.1 hd
 rw [List.take_succ_eq_append_getElem h2,h3,show n + 2 - k = (n + 2 - (k + 1)) + 1 by omega,List.replicate_succ]
 simp
theorem cpL_end (l:List Df) {n:Nat} (hl:l.length = n):cpL l n n = l ++ [zDf,zDf]:=by
 unfold cpL
 rw [List.take_of_length_le (by omega),show n + 2 - n = 2 by omega]
 rfl
theorem own4 {W:World} {base g m cap:Nat} {L:List Df} (h:W.ownsRow base 43 4 (Γ (some ⟨g,0,none⟩) m cap) m (dfRow L)) {k:Nat} {a:Df} (ha:L[k]? = some a) (op num x y:Int) :
 ((((W.setCell ⟨g,k * 4,none⟩ (I J op)).setCell ⟨g,k * 4 + 1,none⟩ (I J num)).setCell ⟨g,k * 4 + 2,none⟩ (I J x)).setCell ⟨g,k * 4 + 3,none⟩ (I J y)).ownsRow base 43 4 (Γ (some ⟨g,0,none⟩) m cap) m (dfRow (L.set k ⟨op,num,x,y⟩)):=by
 have hk:k < L.length:=(List.getElem?_eq_some_iff.1 ha).1
 have s:=owned_set (owned_set (owned_set (owned_set h (k * 4) (I J op)) (k * 4 + 1) (I J num)) (k * 4 + 2) (I J x)) (k * 4 + 3) (I J y)
 have e1:(dfRow L).set (k * 4) (I J op) = dfRow (L.set k ⟨op,a.num,a.a,a.b⟩):=flat_set (f:=dfCells) (s:=4) (fun _=>rfl) L k a ⟨op,a.num,a.a,a.b⟩ 0 _ ha (by omega) rfl
 have e2:(dfRow (L.set k ⟨op,a.num,a.a,a.b⟩)).set (k * 4 + 1) (I J num) = dfRow ((L.set k ⟨op,a.num,a.a,a.b⟩).set k ⟨op,num,a.a,a.b⟩):=flat_set (f:=dfCells) (s:=4) (fun _=>rfl) _ k ⟨op,a.num,a.a,a.b⟩ ⟨op,num,a.a,a.b⟩ 1 _ (by simp [hk]) (by omega) rfl
 rw [List.set_set] at e2
 have e3:(dfRow (L.set k ⟨op,num,a.a,a.b⟩)).set (k * 4 + 2) (I J x) = dfRow ((L.set k ⟨op,num,a.a,a.b⟩).set k ⟨op,num,x,a.b⟩):=flat_set (f:=dfCells) (s:=4) (fun _=>rfl) _ k ⟨op,num,a.a,a.b⟩ ⟨op,num,x,a.b⟩ 2 _ (by simp [hk]) (by omega) rfl
 rw [List.set_set] at e3
 have e4:(dfRow (L.set k ⟨op,num,x,a.b⟩)).set (k * 4 + 3) (I J y) = dfRow ((L.set k ⟨op,num,x,a.b⟩).set k ⟨op,num,x,y⟩):=flat_set (f:=dfCells) (s:=4) (fun _=>rfl) _ k ⟨op,num,x,a.b⟩ ⟨op,num,x,y⟩ 3 _ (by simp [hk]) (by omega) rfl
 rw [List.set_set] at e4
 rw [e1,e2,e3,e4] at s
 exact s
theorem own_dfs {W:World} {base g m cap n:Nat} {l zs:List Df} (h:W.ownsRow base 43 4 (Γ (some ⟨g,0,none⟩) m cap) m (dfRow (l ++ zs))) (hl:l.length = n) (hs:n <= maxLen) (hf:∀ d ∈ l,InR d.num):DfsAt W (some ⟨g,0,none⟩) n l:=by
 refine ⟨hl,hs,hf,fun h0=>⟨g,0,rfl,fun i d hi=>?_⟩⟩
 have hi2:(l ++ zs)[i]? = some d:=by rw [List.getElem?_append_left (List.getElem?_eq_some_iff.1 hi).1]; exact hi
 have c:∀ (j:Nat) (u:Value),(dfCells d)[j]? = some u -> W.cell? ⟨g,0 + (i * 4 + j),none⟩ = some u:=fun j u hu=>by
  rw [Nat.zero_add]
  exact (owned_cells h _ _ (flat_get (s:=4) (fun _=>rfl) (l ++ zs) i d j u hi2 hu)).1
 exact ⟨c 0 _ rfl,c 1 _ rfl,c 2 _ rfl,c 3 _ rfl⟩
theorem values_walk (l:List Df) (la:Option Addr) (n lc:Nat) (more:List Df) (ma:Option Addr) (mn mc:Nat) (w:World) (h:DfsAt w la n l) (hn:n <= 4398046511104) (h2:DfsAt w ma mn more) :
 Calls Tryz.prog 5 #[Γ la n lc,Γ ma mn mc] w fun e w'=>e = .returned (.bool true) /\ Below w.heap.size w w':=by
 have HL:Hid (DfsAt w la n l):=h
 have HM:Hid (DfsAt w ma mn more):=h2
 have hmn:=h2.short
 unfold maxLen at hmn
 clear h h2
 obtain ⟨i0,hi,hz0,hz1,hz2⟩:=info_parts info43
 go_enter Tryz.func5,Tryz.ntmps5
 go_wp2_with fail
 refine (awake_calls w).mono ?_
 rintro e w2 ⟨rfl,hb2⟩
 have HB2:Hid (Below w.heap.size w w2):=hb2
 have hs2:w.heap.size <= w2.heap.size:=hb2.size
 clear hb2
 go_wp2_with (at_make; refine wpList_make_full _ rfl _ _ 25 rfl w.heap.size 43 i0 (.agg #[I J 0,I J 0,I J 0,I J 0]) 4 Tryz.underlying25 hi hz0 hz1 .i64 .i64 _ _ (n + 2) rfl rfl (by omega) (by omega) (by rw [hz2]; omega) (by unfold maxLen; omega) hs2 ?_)
 intro w3 hown3 hgrow3
 rw [made_df,zero_df] at hown3
 have HO3:Hid (w3.ownsRow w.heap.size 43 4 (Γ (some ⟨w2.heap.size,0,none⟩) (n + 2) (n + 2)) (n + 2) (dfRow (cpL l n 0)) /\ Below w.heap.size w w3):=by
  refine ⟨?_,HB2.out.grown hgrow3 hs2 (by intro k hk; cases hk)⟩
  unfold cpL
  rw [List.take_zero,List.nil_append,Nat.sub_zero]
  exact hown3
 clear hown3 hgrow3 HB2
 generalize w2.heap.size = g at *
 go_wp2_with fail
 go_loopw [7] (fun i wr=>∃ k:Nat,k <= n /\ i = I J k /\ Hid (wr.ownsRow w.heap.size 43 4 (Γ (some ⟨g,0,none⟩) (n + 2) (n + 2)) (n + 2) (dfRow (cpL l n k)) /\ Below w.heap.size w wr)) (fun i _=>n - (intOf i).toNat)
 case atStart=>exact ⟨0,Nat.zero_le _,rfl,HO3.out⟩
 case round=>
  clear HO3
  obtain ⟨k,hk,rfl,HO⟩:=hrel
  by_cases hlt:k < n
  ·obtain ⟨d,hdi⟩:∃ d,l[k]? = some d:=⟨l[k]'(by rw [HL.out.length]; exact hlt),List.getElem?_eq_getElem _⟩
   obtain ⟨g1,o1,hla,hcs⟩:=HL.out.cells (by omega)
   subst hla
   obtain ⟨b0,b1,b2,b3⟩:=hcs k d hdi
   clear hcs
   have hz:=flat_get (f:=dfCells) (s:=4) (fun _=>rfl) (cpL l n k) k zDf
   have hg0:=cpL_get l HL.out.length hlt
   have hW:∀ W,Below wr.heap.size wr W -> (W.cell? ⟨g1,o1 + k * 4,none⟩ = some (I J d.op) /\ W.cell? ⟨g1,o1 + k * 4 + 1,none⟩ = some (I J d.num) /\ W.cell? ⟨g1,o1 + k * 4 + 2,none⟩ = some (I J d.a) /\ W.cell? ⟨g1,o1 + k * 4 + 3,none⟩ = some (I J d.b)):=fun W hW=>
    ⟨keepc hW (keepc HO.out.2 b0),keepc hW (keepc HO.out.2 b1),keepc hW (keepc HO.out.2 b2),keepc hW (keepc HO.out.2 b3)⟩
   have hq:∀ W,Below wr.heap.size wr W -> (W.cell? ⟨g,k * 4,none⟩ = some (I J 0) /\ W.cell? ⟨g,k * 4 + 1,none⟩ = some (I J 0) /\ W.cell? ⟨g,k * 4 + 2,none⟩ = some (I J 0) /\ W.cell? ⟨g,k * 4 + 3,none⟩ = some (I J 0)) /\ (W.frozen? ⟨g,k * 4,none⟩ = false /\ W.frozen? ⟨g,k * 4 + 1,none⟩ = false /\ W.frozen? ⟨g,k * 4 + 2,none⟩ = false /\ W.frozen? ⟨g,k * 4 + 3,none⟩ = false):=fun W hW=>by
    have ho:=owned_below HO.out.1 hW
    have z0:=owned_cells ho _ _ (hz 0 _ hg0 rfl)
    have z1:=owned_cells ho _ _ (hz 1 _ hg0 rfl)
    have z2:=owned_cells ho _ _ (hz 2 _ hg0 rfl)
    have z3:=owned_cells ho _ _ (hz 3 _ hg0 rfl)
    exact ⟨⟨z0.1,z1.1,z2.1,z3.1⟩,z0.2,z1.2,z2.2,z3.2⟩
   obtain ⟨x0,x1,x2,x3⟩:=hW wr (Below.refl _ _)
   obtain ⟨⟨y0,y1,y2,y3⟩,v0,v1,v2,v3⟩:=hq wr (Below.refl _ _)
   obtain ⟨op,num,a,b⟩:=d
   simp only at x0 x1 x2 x3
   have HN:Hid (∀ W,Below wr.heap.size wr W -> ((((W.setCell ⟨g,k * 4,none⟩ (I J op)).setCell ⟨g,k * 4 + 1,none⟩ (I J num)).setCell ⟨g,k * 4 + 2,none⟩ (I J a)).setCell ⟨g,k * 4 + 3,none⟩ (I J b)).ownsRow w.heap.size 43 4 (Γ (some ⟨g,0,none⟩) (n + 2) (n + 2)) (n + 2) (dfRow (cpL l n (k + 1))) /\ Below w.heap.size w ((((W.setCell ⟨g,k * 4,none⟩ (I J op)).setCell ⟨g,k * 4 + 1,none⟩ (I J num)).setCell ⟨g,k * 4 + 2,none⟩ (I J a)).setCell ⟨g,k * 4 + 3,none⟩ (I J b))):=fun W hW=>by
    have ho:=own4 (owned_below HO.out.1 hW) hg0 op num a b
    rw [cpL_set l HL.out.length hdi hlt] at ho
    have hbw:Below w.heap.size w W:=HO.out.2.trans (hW.mono HO.out.2.size)
    have a1:∀ (W:World) (i:Nat) (v:Value),Below w.heap.size w W -> Below w.heap.size w (W.setCell ⟨g,i,none⟩ v):=fun W i v h=>h.setCell (p:=⟨g,i,none⟩) hs2 v
    exact ⟨ho,a1 _ _ _ (a1 _ _ _ (a1 _ _ _ (a1 _ _ _ hbw)))⟩
   clear hW hq b0 b1 b2 b3 hdi hz hg0
   go_wp2_with fail
   go_roundw
   case rel=>exact ⟨k + 1,by omega,by go_num,HN.out wr (Below.refl _ _)⟩
   case measure=>simp [intOf]; omega
  ·have hkn:k = n:=by omega
   subst hkn
   have HO4:Hid (wr.ownsRow w.heap.size 43 4 (Γ (some ⟨g,0,none⟩) (k + 2) (k + 2)) (k + 2) (dfRow (l ++ [zDf,zDf]))):=by
    have:=HO.out.1
    rw [cpL_end l HL.out.length] at this
    exact this
   have HB4:Hid (Below w.heap.size w wr):=HO.out.2
   clear HO
   have HTk:Hid (∀ W,W.ownsRow w.heap.size 43 4 (Γ (some ⟨g,0,none⟩) (k + 2) (k + 2)) (k + 2) (dfRow (l ++ [zDf,zDf])) -> DfsAt W (some ⟨g,0,none⟩) k l):=fun W hW=>own_dfs hW HL.out.length HL.out.short HL.out.fits
   go_wp2_with fail
   refine (values_calls l (some ⟨g,0,none⟩) k (k + 2) wr (HTk.out _ HO4.out)).mono ?_
   rintro e w5 ⟨a5,c5,rfl,ho5,hb5⟩
   have HS5:Hid (w5.ownsRow w.heap.size 43 4 (Γ (some ⟨g,0,none⟩) (k + 2) (k + 2)) (k + 2) (dfRow (l ++ [zDf,zDf])) /\ Below w.heap.size w w5 /\ IntA w5 a5 (valsB l).1.length (valsB l).1):=⟨owned_below HO4.out hb5,HB4.out.trans (hb5.mono HB4.out.size),intA_own ho5 rfl (by unfold maxLen; have:=valsB_few l; omega)⟩
   clear ho5 hb5 HO4 HB4
   go_wp2_with fail
   refine (refvalues_calls l la k lc w5 (HL.out.below HS5.out.2.1)).mono ?_
   rintro e w6 ⟨a6,c6,rfl,ho6,hb6⟩
   have HS6:Hid (w6.ownsRow w.heap.size 43 4 (Γ (some ⟨g,0,none⟩) (k + 2) (k + 2)) (k + 2) (dfRow (l ++ [zDf,zDf])) /\ Below w.heap.size w w6 /\ IntA w6 a5 (valsB l).1.length (valsB l).1 /\ IntA w6 a6 (valsB l).1.length (valsB l).1):=⟨owned_below HS5.out.1 hb6,HS5.out.2.1.trans (hb6.mono HS5.out.2.1.size),HS5.out.2.2.below hb6,intA_own ho6 rfl (by unfold maxLen; have:=valsB_few l; omega)⟩
   clear ho6 hb6 HS5
   go_wp2_with fail
   refine (values_calls more ma mn mc w6 (HM.out.below HS6.out.2.1)).mono ?_
   rintro e w7 ⟨a7,c7,rfl,ho7,hb7⟩
   have HS7:Hid (w7.ownsRow w.heap.size 43 4 (Γ (some ⟨g,0,none⟩) (k + 2) (k + 2)) (k + 2) (dfRow (l ++ [zDf,zDf])) /\ Below w.heap.size w w7 /\ IntA w7 a5 (valsB l).1.length (valsB l).1 /\ IntA w7 a6 (valsB l).1.length (valsB l).1 /\ IntA w7 a7 (valsB more).1.length (valsB more).1):=⟨owned_below HS6.out.1 hb7,HS6.out.2.1.trans (hb7.mono HS6.out.2.1.size),HS6.out.2.2.1.below hb7,HS6.out.2.2.2.below hb7,intA_own ho7 rfl (by unfold maxLen; have:=valsB_few more; omega)⟩
   clear ho7 hb7 HS6
   go_wp2_with fail
   refine (refvalues_calls more ma mn mc w7 (HM.out.below HS7.out.2.1)).mono ?_
   rintro e w8 ⟨a8,c8,rfl,ho8,hb8⟩
   have HS8:Hid (w8.ownsRow w.heap.size 43 4 (Γ (some ⟨g,0,none⟩) (k + 2) (k + 2)) (k + 2) (dfRow (l ++ [zDf,zDf])) /\ Below w.heap.size w w8 /\ IntA w8 a5 (valsB l).1.length (valsB l).1 /\ IntA w8 a6 (valsB l).1.length (valsB l).1 /\ IntA w8 a7 (valsB more).1.length (valsB more).1 /\ IntA w8 a8 (valsB more).1.length (valsB more).1):=⟨owned_below HS7.out.1 hb8,HS7.out.2.1.trans (hb8.mono HS7.out.2.1.size),HS7.out.2.2.1.below hb8,HS7.out.2.2.2.1.below hb8,HS7.out.2.2.2.2.below hb8,intA_own ho8 rfl (by unfold maxLen; have:=valsB_few more; omega)⟩
   clear ho8 hb8 HS7
   go_wp2_with fail
   refine (values_calls l la k lc w8 (HL.out.below HS8.out.2.1)).mono ?_
   rintro e w9 ⟨a9,c9,rfl,ho9,hb9⟩
   have HS9:Hid (w9.ownsRow w.heap.size 43 4 (Γ (some ⟨g,0,none⟩) (k + 2) (k + 2)) (k + 2) (dfRow (l ++ [zDf,zDf])) /\ Below w.heap.size w w9):=⟨owned_below HS8.out.1 hb9,HS8.out.2.1.trans (hb9.mono HS8.out.2.1.size)⟩
   have HT9:Hid (IntA w9 a5 (valsB l).1.length (valsB l).1 /\ IntA w9 a6 (valsB l).1.length (valsB l).1 /\ IntA w9 a7 (valsB more).1.length (valsB more).1 /\ IntA w9 a8 (valsB more).1.length (valsB more).1 /\ IntA w9 a9 (valsB l).1.length (valsB l).1):=⟨HS8.out.2.2.1.below hb9,HS8.out.2.2.2.1.below hb9,HS8.out.2.2.2.2.1.below hb9,HS8.out.2.2.2.2.2.below hb9,intA_own ho9 rfl (by unfold maxLen; have:=valsB_few l; omega)⟩
   clear ho9 hb9 HS8
   go_wp2_with fail
   have hD:=defs_calls l l (some ⟨g,0,none⟩) k (k + 2) la k lc w9 (HTk.out _ HS9.out.1) (HL.out.below HS9.out.2)
   rw [decide_eq_true rfl] at hD
   refine hD.mono ?_
   rintro e w10 ⟨rfl,hb10⟩
   have HS10:Hid (w10.ownsRow w.heap.size 43 4 (Γ (some ⟨g,0,none⟩) (k + 2) (k + 2)) (k + 2) (dfRow (l ++ [zDf,zDf])) /\ Below w.heap.size w w10):=⟨owned_below HS9.out.1 hb10,HS9.out.2.trans (hb10.mono HS9.out.2.size)⟩
   have HT10:Hid (IntA w10 a5 (valsB l).1.length (valsB l).1 /\ IntA w10 a6 (valsB l).1.length (valsB l).1 /\ IntA w10 a7 (valsB more).1.length (valsB more).1 /\ IntA w10 a8 (valsB more).1.length (valsB more).1 /\ IntA w10 a9 (valsB l).1.length (valsB l).1):=⟨HT9.out.1.below hb10,HT9.out.2.1.below hb10,HT9.out.2.2.1.below hb10,HT9.out.2.2.2.1.below hb10,HT9.out.2.2.2.2.below hb10⟩
   clear hD hb10 HS9 HT9
   go_wp2_with fail
   have hD:=ints_calls (valsB l).1 (valsB l).1 a5 _ c5 a6 _ c6 w10 HT10.out.1 HT10.out.2.1
   rw [decide_eq_true rfl] at hD
   refine hD.mono ?_
   rintro e w11 ⟨rfl,hb11⟩
   have HS11:Hid (w11.ownsRow w.heap.size 43 4 (Γ (some ⟨g,0,none⟩) (k + 2) (k + 2)) (k + 2) (dfRow (l ++ [zDf,zDf])) /\ Below w.heap.size w w11):=⟨owned_below HS10.out.1 hb11,HS10.out.2.trans (hb11.mono HS10.out.2.size)⟩
   have HT11:Hid (IntA w11 a6 (valsB l).1.length (valsB l).1 /\ IntA w11 a7 (valsB more).1.length (valsB more).1 /\ IntA w11 a8 (valsB more).1.length (valsB more).1 /\ IntA w11 a9 (valsB l).1.length (valsB l).1):=⟨HT10.out.2.1.below hb11,HT10.out.2.2.1.below hb11,HT10.out.2.2.2.1.below hb11,HT10.out.2.2.2.2.below hb11⟩
   clear hD hb11 HS10 HT10
   go_wp2_with fail
   have hD:=ints_calls (valsB more).1 (valsB more).1 a7 _ c7 a8 _ c8 w11 HT11.out.2.1 HT11.out.2.2.1
   rw [decide_eq_true rfl] at hD
   refine hD.mono ?_
   rintro e w12 ⟨rfl,hb12⟩
   have HS12:Hid (w12.ownsRow w.heap.size 43 4 (Γ (some ⟨g,0,none⟩) (k + 2) (k + 2)) (k + 2) (dfRow (l ++ [zDf,zDf])) /\ Below w.heap.size w w12):=⟨owned_below HS11.out.1 hb12,HS11.out.2.trans (hb12.mono HS11.out.2.size)⟩
   have HT12:Hid (IntA w12 a6 (valsB l).1.length (valsB l).1 /\ IntA w12 a9 (valsB l).1.length (valsB l).1):=⟨HT11.out.1.below hb12,HT11.out.2.2.2.below hb12⟩
   clear hD hb12 HS11 HT11
   go_wp2_with fail
   have hD:=ints_calls (valsB l).1 (valsB l).1 a9 _ c9 a6 _ c6 w12 HT12.out.2 HT12.out.1
   rw [decide_eq_true rfl] at hD
   refine hD.mono ?_
   rintro e w13 ⟨rfl,hb13⟩
   have HB13:Hid (Below w.heap.size w w13):=HS12.out.2.trans (hb13.mono HS12.out.2.size)
   have ho:=owned_below HS12.out.1 hb13
   have hz:=flat_get (f:=dfCells) (s:=4) (fun _=>rfl) (l ++ [zDf,zDf])
   have g0:(l ++ [zDf,zDf])[k]? = some zDf:=by rw [List.getElem?_append_right (by rw [HL.out.length]; omega),HL.out.length,Nat.sub_self]; rfl
   have g1:(l ++ [zDf,zDf])[k + 1]? = some zDf:=by rw [List.getElem?_append_right (by rw [HL.out.length]; omega),HL.out.length,show k + 1 - k = 1 by omega]; rfl
   have q0:w13.cell? ⟨g,k * 4,none⟩ = some (I J 0):=(owned_cells ho _ _ (hz k zDf 0 _ g0 rfl)).1
   have q1:w13.cell? ⟨g,k * 4 + 1,none⟩ = some (I J 0):=(owned_cells ho _ _ (hz k zDf 1 _ g0 rfl)).1
   have q2:w13.cell? ⟨g,k * 4 + 2,none⟩ = some (I J 0):=(owned_cells ho _ _ (hz k zDf 2 _ g0 rfl)).1
   have q3:w13.cell? ⟨g,k * 4 + 3,none⟩ = some (I J 0):=(owned_cells ho _ _ (hz k zDf 3 _ g0 rfl)).1
   have r0:w13.cell? ⟨g,(k + 1) * 4,none⟩ = some (I J 0):=(owned_cells ho _ _ (hz (k + 1) zDf 0 _ g1 rfl)).1
   have r1:w13.cell? ⟨g,(k + 1) * 4 + 1,none⟩ = some (I J 0):=(owned_cells ho _ _ (hz (k + 1) zDf 1 _ g1 rfl)).1
   have r2:w13.cell? ⟨g,(k + 1) * 4 + 2,none⟩ = some (I J 0):=(owned_cells ho _ _ (hz (k + 1) zDf 2 _ g1 rfl)).1
   have r3:w13.cell? ⟨g,(k + 1) * 4 + 3,none⟩ = some (I J 0):=(owned_cells ho _ _ (hz (k + 1) zDf 3 _ g1 rfl)).1
   clear hD hb13 HS12 HT12 ho hz g0 g1 HTk HL HM
   generalize (valsB l).2 = e1 at *
   generalize (valsB more).2 = e2 at *
   generalize (valsB l).1.length = n1 at *
   generalize (valsB more).1.length = n2 at *
   have he1:(e1 == e1) = true:=by simp
   have he2:(e2 == e2) = true:=by simp
   go_wp2
   go_ret
   exact ⟨rfl,HB13.out⟩
end Go.Proofs.YtlaodgdlkkmmeaaGreat
