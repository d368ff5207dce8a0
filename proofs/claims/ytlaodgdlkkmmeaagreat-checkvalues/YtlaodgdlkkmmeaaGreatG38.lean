/-
  A row of places of which nothing was said: slices.Repeat over one number. The letters of an alphabet: alphabet.
-/
import Derived.Laws.CopyOwn
import Derived.Test.YtlaodgdlkkmmeaaGreatG37
namespace Go.Proofs.YtlaodgdlkkmmeaaGreat
open Go.RowKit Go.Deep Go.Maps
open Go.Value renaming int->I,slice->Γ
open Go.IntKind renaming i64->J
open Go.Obj renaming cells->Δ
open Go.Ending renaming returned->Ω
set_option maxRecDepth 20000
set_option maxHeartbeats 2000000
theorem mulU_calls (x y:Nat) (hx:x < 18446744073709551616) (hy:y < 18446744073709551616) (w:World) :
 Calls Tryz.prog 124 #[.int .u64 x,.int .u64 y] w fun e w'=>e = Ω (.tuple #[.int .u64 ((x * y / 18446744073709551616:Nat):Int),.int .u64 ((x * y % 18446744073709551616:Nat):Int)]) /\ w' = w:=by
 have H:=mul64_calls x y hx hy
 generalize ((x * y / 18446744073709551616:Nat):Int) = q at *
 generalize ((x * y % 18446744073709551616:Nat):Int) = r at *
 go_enter Tryz.func124,Tryz.ntmps124
 go_wp2_with (go_at_call 115; refine (H _).mono ?_; rintro e w' ⟨rfl,rfl⟩)
 go_ret2
 exact ⟨rfl,rfl⟩
def rpRow (N k:Nat):List Value:=List.replicate k (I J (-1)) ++ List.replicate (N - k) (I J 0)
theorem rp_len (N k:Nat) (_h:k <= N):(rpRow N k).length = N:=by simp [rpRow]; omega
theorem rp_splice (N k m:Nat) (_h:k + m <= N):splice (rpRow N k) k (List.replicate m (I J (-1))) = rpRow N (k + m):=by
 unfold splice rpRow
 rw [List.take_append_of_le_length (by simp),List.take_of_length_le (by simp),List.length_replicate,List.drop_append,List.drop_eq_nil_of_le (by simp)]
 simp only [List.nil_append,List.length_replicate,Nat.add_sub_cancel_left,List.drop_replicate]
 rw [<- List.append_assoc,List.replicate_append_replicate,Nat.sub_sub]
theorem rp_all (N:Nat):rpRow N N = itRow (List.replicate N (-1)):=by simp [rpRow,itRow]
theorem rp_made (N:Nat):(madeCells (Value.int .i64 0).cells (N * 1)).toList = rpRow N 0:=by
 apply List.ext_getElem?
 intro i
 by_cases h:i < N
 ·simp [rpRow,madeCells,Value.cells,h,Nat.mod_one]
 ·simp [rpRow,madeCells,h]
theorem rp_cell {w:World} {g N k:Nat} (hb:w.heap[g]? = some (Δ (rpRow N k).toArray 3 (0,0))) {j:Nat} {v:Value} (hj:(List.replicate k (Value.int .i64 (-1)))[j]? = some v):w.cell? ((⟨g,0,none⟩:Addr).add j) = some v:=by
 have hlt:j < k:=by by_cases h:j < k; exact h; simp [h] at hj
 have hadd:(⟨g,0,none⟩:Addr).add j = ⟨g,j,none⟩:=by unfold Addr.add; split <;> simp_all
 rw [hadd]
 refine blk hb ?_
 have e:(rpRow N k)[j]? = (List.replicate k (Value.int .i64 (-1)))[j]?:=by unfold rpRow; rw [List.getElem?_append_left (by simpa using hlt)]
 rw [List.getElem?_toArray,e]
 exact hj
theorem own_full {w:World} {base g n:Nat} {xs:List Value} (h:w.ownsRow base 3 1 (Γ (some ⟨g,0,none⟩) n n) n xs):w.heap[g]? = some (Δ xs.toArray 3 (0,0)):=by
 rcases h.2 with ⟨h1,_⟩ | ⟨g',cap,cur,h1,_,hb,_,_,hs,ht⟩
 ·cases h1
 ·cases h1
  rw [List.take_of_length_le (by simp; omega)] at ht
  rw [hb,<- ht]
theorem size3:(Tryz.prog.info? 3).map (·.size) = some 1:=by kernel_rfl
theorem repeat_calls (N g:Nat) (w:World) (h1:1 <= N) (h2:N <= 400) (hb:w.heap[g]? = some (Δ #[I J (-1)] 3 (0,0))) :
 Calls Tryz.prog 91 #[Γ (some ⟨g,0,none⟩) 1 1,I J (N:Int)] w fun e w'=>e = Ω (Γ (some ⟨w.heap.size,0,none⟩) N N) /\ w'.heap[w.heap.size]? = some (Δ (rpRow N N).toArray 3 (0,0)) /\ Below w.heap.size w w':=by
 obtain ⟨i0,hi,hz0,hz1,hz2⟩:=info_parts info3
 have H:=mulU_calls 1 N (by omega) (by omega)
 rw [Nat.one_mul,Nat.div_eq_of_lt (by omega),Nat.mod_eq_of_lt (by omega),show ((1:Nat):Int) = 1 from rfl,show ((0:Nat):Int) = 0 from rfl] at H
 have hlt:g < w.heap.size:=lt_block hb
 have HG:=hid hb
 have hw1:IntKind.u64.wrap (N:Int) = (N:Int):=by rw [IntKind.wrap_u64]; omega
 have hw2:IntKind.i64.wrap (N:Int) = (N:Int):=by rw [IntKind.wrap_i64]; omega
 have hn0:decide ((N:Int) < 0) = false:=by simp
 have hn1:decide ((9223372036854775807:Int) < (N:Int)) = false:=by simp; omega
 have hadd:∀ j,(⟨g,0,none⟩:Addr).add j = ⟨g,j,none⟩:=fun j=>by unfold Addr.add; split <;> simp_all
 have HC1:Hid (∀ w2,w2.ownsRow 0 3 1 (Γ (some ⟨w.heap.size,0,none⟩) N N) N (madeCells (Value.int .i64 0).cells (N * 1)).toList -> w.grownBy w2 none -> w2.heap[w.heap.size]? = some (Δ (rpRow N 0).toArray 3 (0,0)) /\ Below w.heap.size w w2 /\ ∀ j v,(List.replicate 1 (Value.int .i64 (-1)))[j]? = some v -> w2.cell? ((⟨g,0,none⟩:Addr).add j) = some v):=by
  intro w2 hr hg
  rw [rp_made] at hr
  have hB:Below w.heap.size w w2:=⟨hg.os,hg.tape,hg.output,hg.size,fun k hk=>hg.block k hk (fun e=>by cases e)⟩
  refine ⟨own_full hr,hB,fun j v hj=>?_⟩
  have h0:j = 0:=by
   have:=(List.getElem?_eq_some_iff.1 hj).1
   simp at this; exact this
  subst h0
  rw [hadd]
  refine blk (by rw [hB.block g hlt]; exact HG.out) ?_
  exact hj
 have HL0:Hid ((rpRow N 0).length = N):=rp_len N 0 (by omega)
 clear hb hadd
 go_enter Tryz.func91,Tryz.ntmps91
 go_wp2_with (first
  | (go_at_call 124; refine (H _).mono ?_; rintro e w' ⟨rfl,hw'⟩; subst w')
  | (at_make; refine wpList_make_full _ rfl _ _ 26 rfl 0 3 i0 _ 1 Tryz.underlying26 hi hz0 hz1 .i64 .i64 _ _ N rfl rfl rfl rfl (by rw [hz2]; omega) (by unfold maxLen; omega) (Nat.zero_le _) ?_; intro w2 hr hg; have HM:=HC1.out _ hr hg; clear hr hg HC1)
  | (with_reducible show wpList _ _ _ ({ dst:=_,op:=Op.call { callee:=Callee.builtin Builtin.copy,args:=_,argTypes:=_ },type:=_,pos:=_,after:=_,guard:=_ } :: _) _ _; go_loud (refine wpList_copy_splice rfl _ _ 26 26 rfl 3 Tryz.underlying26 size3 (some ⟨w.heap.size,0,none⟩) (some ⟨g,0,none⟩) N N 1 1 rfl rfl w.heap.size 0 (rpRow N 0) 3 HM.1 (List.replicate 1 (I J (-1))) (by rw [List.length_replicate]; exact (Nat.min_eq_left h1).symm) (fun _=>⟨rfl,_,rfl,HM.2.2⟩) (by rw [HL0.out]; simp; omega) (by simp [Value.oneCell']) w.heap.size w HM.2.1 (Nat.le_refl _) ?_); intro w3 hg3 hb3)
  | fail)
 have HB:Hid (w3.heap[w.heap.size]? = some (Δ (rpRow N 1).toArray 3 (0,0)) /\ Below w.heap.size w w3):=⟨by have:=hg3.out; rw [rp_splice N 0 1 (by omega)] at this; exact this,hb3⟩
 clear hg3 hb3 HM HL0 H HG hi hz0 hz1 hz2 hn0 hn1 hlt
 go_loopw [8] (fun i wr=>∃ k:Nat,1 <= k /\ k <= N /\ i = I J k /\ Hid (wr.heap[w.heap.size]? = some (Δ (rpRow N k).toArray 3 (0,0)) /\ Below w.heap.size w wr)) (fun i _=>N - (intOf i).toNat)
 case atStart=>exact ⟨1,Nat.le_refl _,h1,rfl,HB.out⟩
 case round=>
  clear HB
  obtain ⟨k,hk1,hk2,rfl,HK⟩:=hrel
  by_cases hlt:k < N
  ·obtain ⟨m,hm⟩:∃ m,m = min k (N - k):=⟨_,rfl⟩
   have hm1:1 <= m:=by omega
   have hm2:k + m <= N:=by omega
   have hm3:m <= k:=by omega
   have HM:Hid ((List.replicate m (Value.int .i64 (-1))).length = Nat.min k (N - k)):=by show _ = _; rw [List.length_replicate]; exact hm
   have HL:Hid (k + (List.replicate m (Value.int .i64 (-1))).length <= (rpRow N k).length):=by show _ <= _; rw [rp_len N k hk2,List.length_replicate]; exact hm2
   have HC:Hid (∀ j v,(List.replicate m (Value.int .i64 (-1)))[j]? = some v -> wr.cell? ((⟨w.heap.size,0,none⟩:Addr).add j) = some v):=by
    intro j v hj
    have hjm:j < m:=by have:=(List.getElem?_eq_some_iff.1 hj).1; simpa using this
    refine rp_cell HK.out.1 (j:=j) ?_
    rw [List.getElem?_replicate] at hj ⊢
    rw [if_pos hjm] at hj
    rw [if_pos (by omega)]
    exact hj
   clear hm
   go_wp2_with fail
   have hne:¬ N = k:=by omega
   have HKd:Hid (wr.drew.heap[w.heap.size]? = some (Δ (rpRow N k).toArray 3 (0,0)) /\ Below w.heap.size w wr.drew):=⟨HK.out.1,HK.out.2.drew⟩
   refine wp_region_Y (fun j=>[].contains j) (fun _=>True) (by kernel_rfl) ?_
   refine tkL (i:=0) 38 (v:=I J (k:Int)) rfl rfl trivial (fun W hW=>by go_simp) ?_
   simp only [Act.put,lA,lB,lC]
   refine tkL (i:=1) 39 (v:=Γ (some ⟨w.heap.size,0,none⟩) N N) rfl rfl trivial (fun W hW=>by go_simp) ?_
   simp only [Act.put,lA,lB,lC]
   refine tkL (i:=2) 40 (v:=I J (k:Int)) rfl rfl trivial (fun W hW=>by go_simp) ?_
   simp only [Act.put,lA,lB,lC]
   refine tkL (i:=3) 41 (v:=Γ (some ⟨w.heap.size,k,none⟩) (N - k) (N - k)) rfl rfl trivial (fun W hW=>by go_simp) ?_
   simp only [Act.put,lA,lB,lC]
   refine tkL (i:=4) 42 (v:=Γ (some ⟨w.heap.size,0,none⟩) N N) rfl rfl trivial (fun W hW=>by go_simp) ?_
   simp only [Act.put,lA,lB,lC]
   refine tkL (i:=5) 43 (v:=I J (k:Int)) rfl rfl trivial (fun W hW=>by go_simp) ?_
   simp only [Act.put,lA,lB,lC]
   refine tkL (i:=6) 44 (v:=Γ (some ⟨w.heap.size,0,none⟩) k N) rfl rfl trivial (fun W hW=>by go_simp) ?_
   simp only [Act.put,lA,lB,lC]
   refine wpAnyY_one (i:=7) rfl (by kernel_rfl) (fun K hK=>?_)
   refine step_copy_splice rfl (.tmp 41) (.tmp 44) 26 26 rfl 3 Tryz.underlying26 size3 (some ⟨w.heap.size,k,none⟩) (some ⟨w.heap.size,0,none⟩) (N - k) (N - k) k N rfl rfl w.heap.size k (rpRow N k) 3 HKd.out.1 (List.replicate m (I J (-1))) HM.out (fun _=>⟨rfl,_,rfl,HC.out⟩) HL.out (by intro v hv; rw [List.eq_of_mem_replicate hv]; rfl) w.heap.size w HKd.out.2 (Nat.le_refl _) ?_
   intro w4 hg4 hb4
   show K (Act.put _ (some 45) _) w4
   have HK4:Hid (w4.heap[w.heap.size]? = some (Δ (rpRow N (k + m)).toArray 3 (0,0)) /\ Below w.heap.size w w4):=⟨by have:=hg4.out; rw [rp_splice N k m hm2] at this; exact this,hb4⟩
   refine hK.out _ _ (fun _=>trivial) ?_
   clear hK K hg4 hb4 HKd HK HC HM HL
   rw [List.length_replicate]
   unfold goInt
   have hwk:IntKind.i64.wrap ((k:Int) + (m:Int)) = ((k + m:Nat):Int):=by rw [IntKind.wrap_i64]; omega
   simp only [Act.put,lA,lB,lC]
   refine tkL (i:=8) 46 (v:=I J ((k + m:Nat):Int)) rfl rfl trivial (fun W hW=>by go_simp) ?_
   simp only [Act.put,lA,lB,lC]
   refine tkL (i:=9) 8 (v:=I J ((k + m:Nat):Int)) rfl rfl trivial (fun W hW=>by go_simp) ?_
   simp only [Act.put,lA,lB,lC]
   refine wpAnyY_done (by kernel_rfl) ?_ _
   go_wp2_with fail
   go_round
   case rel=>exact ⟨k + m,by omega,hm2,rfl,HK4.out⟩
   case measure=>simp [intOf]; omega
  ·have hkN:k = N:=by omega
   go_wp2
   go_ret
   exact ⟨rfl,by rw [<- hkN]; have:=HK.out.1; rwa [hkN] at this ⊢,HK.out.2⟩
open Go.Value renaming int->I,pointer->Φ,string->Ψ,slice->Γ
set_option maxRecDepth 20000
set_option maxHeartbeats 8000000
theorem askQ_text {right:List UInt8 -> Bool} {c c1:Ck} {e:Ex} {m:Mn} (h:askQ (textQ right) c e = .ok (c1,m)):m.isText = true /\ right m.text = true:=by
 unfold askQ at h
 split at h
 ·cases h
 ·split at h
  ·rename_i hq
   cases h
   unfold textQ at hq
   cases hm:m.isText with
   | false=>rw [hm] at hq; simp at hq
   | true=>
     rw [hm] at hq
     cases hr:right m.text with
     | false=>rw [hr] at hq; simp at hq
     | true=>exact ⟨rfl,rfl⟩
  ·cases h
theorem right_few {l:List UInt8} (h:Al.rightB l = true):2 <= l.length /\ l.length <= 20:=by
 constructor
 ·by_cases h1:l.length < 2
  ·rw [Al.rightB_short l h1] at h; cases h
  ·omega
 ·by_cases h1:20 < l.length
  ·rw [Al.rightB_long l h1] at h; cases h
  ·omega
theorem CkAt.setSub {O:Nat -> Prop} {b:Nat} {s:Sl} {c:Ck} {w w':World} (h:CkAt O b s c w) (hB:Below w.heap.size w w') {g N:Nat} {l:List Int} (hg:w.heap.size <= g) (hrow:w'.heap[g]? = some (Δ (itRow l).toArray 3 (0,0))) (hN:l.length = N) (hmax:N <= maxLen) :
 CkAt (fun q=>O q \/ w.heap.size <= q) b { s with sv:=Γ (some ⟨g,0,none⟩) N N } { c with subst:=l } (w'.setCell ⟨b,2,none⟩ (Γ (some ⟨g,0,none⟩) N N)):=by
 have h':=h.below hB
 have hb:=h'.block
 have hne:∀ q,q ≠ b -> (w'.setCell ⟨b,2,none⟩ (Γ (some ⟨g,0,none⟩) N N)).heap[q]? = w'.heap[q]?:=fun q hq=>Below.heap_setCell w' _ _ q hq
 have hrow':w'.ownsRow 0 3 1 (Γ (some ⟨g,0,none⟩) N N) l.length (itRow l):=
  ⟨by simp [itRow],.inr ⟨g,N,(itRow l).toArray,by rw [hN],Nat.zero_le _,hrow,by omega,hmax,by simp [itRow,hN],by rw [Nat.mul_one,List.take_of_length_le (by simp [itRow])]⟩⟩
 refine ⟨heap_put hb rfl,?_,?_,?_,?_,?_,?_,.inl h.inB,fun q hq=>.inl (h.inD q hq),?_,fun q hq=>.inl (h.inP q hq),fun q hq=>.inl (h.inV q hq),.inl h.inM⟩
 ·exact owned_of_block h'.defs fun q _ hv _=>hne q (fun e=>own_ne h'.defs hb (by decide) (e ▸ hv))
 ·exact owned_of_block hrow' fun q _ hv _=>hne q (fun e=>own_ne hrow' hb (by decide) (e ▸ hv))
 ·exact owned_of_block h'.pieces fun q _ hv _=>hne q (fun e=>own_ne h'.pieces hb (by decide) (e ▸ hv))
 ·exact owned_of_block h'.values fun q _ hv _=>hne q (fun e=>own_ne h'.values hb (by decide) (e ▸ hv))
 ·exact h'.names.keep (hne _ (nm_ne h'.names hb))
 ·intro q hq hv
  have h1:q = g:=by simp [Value.ownBlock] at hq; exact hq.symm
  have:=(own_lt h.values hv).1
  omega
 ·intro q hq
  have h1:q = g:=by simp [Value.ownBlock] at hq; exact hq.symm
  exact .inr (by omega)
def alpha2:Er (Ck × Mn) -> Er Ck
 | .error f=>.error f
 | .ok (c1,m)=>.ok { c1 with letters:=m.text,subst:=List.replicate (m.text.length * m.text.length) (-1) }
theorem alphabet_calls {B:Nat} {O:Nat -> Prop} {b:Nat} {s:Sl} {c:Ck} (h:Hd) (k:Fo) (ka:Option Addr) (kn kc:Nat) (w:World) (hck:CkAt O b s c w) (hok:CkOk c) (hlow:∀ g,O g -> B <= g) (hB:B <= w.heap.size)
 (hE:ExAt false (fun g=>g < B) w (h,k) ka kn) (hr:okE h k) :
 Calls Tryz.prog 51 #[Φ (some ⟨b,0,none⟩),exV h ka kn kc] w (TPost O b w (alphabetB c (h,k))):=by
 have hres:Tryz.f51.results = #[.cell 4 32]:=by kernel_rfl
 have hS1:=LS.start2 hck hok h ka kn kc
 obtain ⟨r1,hr1⟩:∃ r,r = askQ (textQ Al.rightB) c (h,k):=⟨_,rfl⟩
 have HA1:Hid (∀ O' s' L W g,LS w O O' b s s' (some c) L W -> (g,[.func (.func 82) #[] #[]],41) ∈ L -> Calls Tryz.prog 89 #[Φ (some ⟨b,0,none⟩),.agg #[I J h.kind,I J h.num,Ψ (bs h.text),Γ ka kn kc,I J h.pl],.func (.func 123) #[] #[Φ (some ⟨g,0,none⟩)]] W fun e w'=>∃ mt mx mp mn f1 f2,e = Ω (.tuple #[.agg #[.bool mt,Ψ mx,I J mp,I J mn],.agg #[I J f1,I J f2]]) /\ Hid (∃ m oc O2 s2,(m.isText = mt /\ bs m.text = mx /\ m.place = mp /\ m.num = mn) /\ RQ r1 m (f1,f2) oc /\ LS w O O2 b s s2 oc L w')):=by
  intro O' s' L W g h1' h2'
  have hloc:=h1'.loc _ h2'
  refine (h1'.askText h k ka kn kc Al.rightB g (fun O W=>Lc O W g [.func (.func 82) #[] #[]] 41) hlow hB hE hr hloc.1 (fun O O' W W' a hf hn=>a.fr hf hn) ?_).mono ?_
  ·intro O' s' c' m W _ _ _ hm a1
   refine textQ_82 Al.rightB m g W (a1.cell rfl) (fun o _=>?_)
   refine (Al.right_calls (bs m.text) (W.alloc o) (by rw [bs_size]; exact hm.text)).mono ?_
   rintro e w' ⟨rfl,n,rfl⟩
   exact ⟨by rw [bs_list],below_dn (Below.refl _ _) n⟩
  ·rintro e w' ⟨m,f,oc,O2,s2,rfl,h3⟩
   exact ⟨_,_,_,_,_,_,rfl,m,oc,O2,s2,⟨rfl,rfl,rfl,rfl⟩,by rw [hr1]; exact h3.out.1,h3.out.2⟩
 have HSS:Hid (∀ O' s' oc L W,LS w O O' b s s' oc L W -> (w.heap.size,exL h ka kn kc,102) ∈ L -> W.cell? ⟨w.heap.size,0,none⟩ = some (I J h.kind) /\ W.cell? ⟨w.heap.size,1,none⟩ = some (I J h.num) /\ W.cell? ⟨w.heap.size,2,none⟩ = some (Ψ (bs h.text)) /\ W.cell? ⟨w.heap.size,3,none⟩ = some (Γ ka kn kc) /\ W.cell? ⟨w.heap.size,4,none⟩ = some (I J h.pl)):=fun O' s' oc L W h1 h2=>⟨h1.at h2 rfl,h1.at h2 rfl,h1.at h2 rfl,h1.at h2 rfl,h1.at h2 rfl⟩
 have HX:Hid (alphabetB c (h,k) = alpha2 r1):=by show _ = _; rw [hr1]; rfl
 have HT:Hid (∀ c1 m,r1 = .ok (c1,m) -> Al.rightB m.text = true):=fun c1 m he=>(askQ_text (hr1.symm.trans he)).2
 generalize hO1:(fun g=>O g /\ g < w.heap.size) = O1 at hS1
 clear hO1 hck hok hlow hB hE hr hr1
 unfold exV
 have HS1:=hid hS1
 clear hS1
 go_enter Tryz.func51,Tryz.ntmps51
 go_upto_region 1 with (fail)
 generalize ((w.alloc (Δ #[I J h.kind,I J h.num,Ψ (bs h.text),Γ ka kn kc,I J h.pl] 102)).alloc (Δ #[I J 0,I J 0] 32)) = w1 at *
 go_cut [5,6] (fun mv fv wc=>∃ g5 g6 mt mx mp mn f1 f2,mv = Φ (some ⟨g5,0,none⟩) /\ fv = Φ (some ⟨g6,0,none⟩) /\ AR r1 w O b s mt mx mp mn f1 f2 (fun m=>[(g5,mnL m,109),(g6,flL (f1,f2),32),(w.heap.size + 1,flL (0,0),32)]) wc)
 case first=>
  have hy1:EC w.heap.size h ka kn kc w1:=HSS.out _ _ _ _ _ HS1.out (by simp)
  have hy:EC w.heap.size h ka kn kc w1.drew:=hy1
  have hl1:w.heap.size < w1.heap.size:=HS1.out.lt (g:=w.heap.size) (cs:=exL h ka kn kc) (ty:=102) (by simp)
  go_region_held3 (fun W=>W.cell? ⟨w.heap.size,0,none⟩ = some (I J h.kind) /\ W.cell? ⟨w.heap.size,1,none⟩ = some (I J h.num) /\ W.cell? ⟨w.heap.size,2,none⟩ = some (Ψ (bs h.text)) /\ W.cell? ⟨w.heap.size,3,none⟩ = some (Γ ka kn kc) /\ W.cell? ⟨w.heap.size,4,none⟩ = some (I J h.pl)) (first | (with_reducible exact hy) | (with_reducible exact hyV) | (with_reducible exact (hy1.alloc _).drew) | (with_reducible exact ((hy1.alloc _).alloc _).drew) | (with_reducible exact (((hy1.alloc _).alloc _).alloc _).drew) | (with_reducible exact hyV.alloc _) | (with_reducible exact (hyV.alloc _).alloc _) | (with_reducible exact ((((hyV.put (b:=_) (by omega) 0 _).put (b:=_) (by omega) 1 _).put (b:=_) (by omega) 2 _).put (b:=_) (by omega) 3 _)) | (with_reducible exact (((((hyV.put (b:=_) (by omega) 0 _).put (b:=_) (by omega) 1 _).put (b:=_) (by omega) 2 _).put (b:=_) (by omega) 3 _).alloc _)) | (with_reducible exact ((((((hyV.put (b:=_) (by omega) 0 _).put (b:=_) (by omega) 1 _).put (b:=_) (by omega) 2 _).put (b:=_) (by omega) 3 _).put (b:=_) (by omega) 0 _).put (b:=_) (by omega) 1 _)) | (with_reducible exact (((hyV.put (b:=_) (by omega) 0 _).put (b:=_) (by omega) 1 _).alloc _))) (first
   | (go_at_call 90; (with_reducible refine (textOf_calls _ _ _ _).mono ?_); rintro e V1 ⟨rfl,rfl⟩)
   | (go_at_call 89; (with_reducible refine (HA1.out _ _ _ _ (w1.heap.size) (HS1.out.allocE (g:=w1.heap.size) [.func (.func 82) #[] #[]] 41 rfl (by simp)).drew (by simp)).mono ?_); rintro e V2 ⟨mt,mx,mp,mn,f1,f2,rfl,hV⟩; obtain ⟨m,oc,O2,s2,⟨rfl,rfl,rfl,rfl⟩,hRQ,hLSC⟩:=hV.out; have hyV:EC w.heap.size h ka kn kc V2:=HSS.out _ _ _ _ _ hLSC (by simp); have hl2:w.heap.size < V2.heap.size:=hLSC.lt (g:=w.heap.size) (cs:=exL h ka kn kc) (ty:=102) (by simp))
   | (go_at_call 89; (with_reducible refine (HA1.out _ _ _ _ (w1.heap.size) ((HS1.out.allocE (g:=w1.heap.size) [.func (.func 82) #[] #[]] 41 rfl (by simp)).allocE (g:=w1.heap.size + 1) [I J 0,I J 0] 32 rfl (by simp)).drew (by simp)).mono ?_); rintro e V2 ⟨mt,mx,mp,mn,f1,f2,rfl,hV⟩; obtain ⟨m,oc,O2,s2,⟨rfl,rfl,rfl,rfl⟩,hRQ,hLSCF⟩:=hV.out; have hyV:EC w.heap.size h ka kn kc V2:=HSS.out _ _ _ _ _ hLSCF (by simp); have hl2:w.heap.size < V2.heap.size:=hLSCF.lt (g:=w.heap.size) (cs:=exL h ka kn kc) (ty:=102) (by simp); obtain ⟨lr,nr,or_,r0,r1,rf,ra0,ra1,rg⟩:=hLSCF.fh (g:=w1.heap.size + 1) (by simp))
   | (go_at_call 89; (with_reducible refine (HA1.out _ _ _ _ (w1.heap.size) (((HS1.out.allocE (g:=w1.heap.size) [.func (.func 82) #[] #[]] 41 rfl (by simp)).allocE (g:=w1.heap.size + 1) [I J 0,I J 0] 32 rfl (by simp)).allocE (g:=w1.heap.size + 1 + 1) [.bool false,Ψ ⟨#[]⟩,I J 0,I J 0] 109 rfl (by simp)).drew (by simp)).mono ?_); rintro e V2 ⟨mt,mx,mp,mn,f1,f2,rfl,hV⟩; obtain ⟨m,oc,O2,s2,⟨rfl,rfl,rfl,rfl⟩,hRQ,hLSCFM⟩:=hV.out; have hyV:EC w.heap.size h ka kn kc V2:=HSS.out _ _ _ _ _ hLSCFM (by simp); have hl2:w.heap.size < V2.heap.size:=hLSCFM.lt (g:=w.heap.size) (cs:=exL h ka kn kc) (ty:=102) (by simp); obtain ⟨lq,nq,oq,q0,q1,q2,q3,qf,qa0,qa1,qa2,qa3,qg⟩:=hLSCFM.mh (g:=w1.heap.size + 1 + 1) (by simp); obtain ⟨lr,nr,or_,r0,r1,rf,ra0,ra1,rg⟩:=hLSCFM.fh (g:=w1.heap.size + 1) (by simp))
   | (go_at_call 89; (with_reducible refine (HA1.out _ _ _ _ (w1.heap.size) ((HS1.out.allocE (g:=w1.heap.size) [.func (.func 82) #[] #[]] 41 rfl (by simp)).allocE (g:=w1.heap.size + 1) [.bool false,Ψ ⟨#[]⟩,I J 0,I J 0] 109 rfl (by simp)).drew (by simp)).mono ?_); rintro e V2 ⟨mt,mx,mp,mn,f1,f2,rfl,hV⟩; obtain ⟨m,oc,O2,s2,⟨rfl,rfl,rfl,rfl⟩,hRQ,hLSCM⟩:=hV.out; have hyV:EC w.heap.size h ka kn kc V2:=HSS.out _ _ _ _ _ hLSCM (by simp); have hl2:w.heap.size < V2.heap.size:=hLSCM.lt (g:=w.heap.size) (cs:=exL h ka kn kc) (ty:=102) (by simp); obtain ⟨lq,nq,oq,q0,q1,q2,q3,qf,qa0,qa1,qa2,qa3,qg⟩:=hLSCM.mh (g:=w1.heap.size + 1) (by simp))
   | (go_at_call 89; (with_reducible refine (HA1.out _ _ _ _ (w1.heap.size) (((HS1.out.allocE (g:=w1.heap.size) [.func (.func 82) #[] #[]] 41 rfl (by simp)).allocE (g:=w1.heap.size + 1) [.bool false,Ψ ⟨#[]⟩,I J 0,I J 0] 109 rfl (by simp)).allocE (g:=w1.heap.size + 1 + 1) [I J 0,I J 0] 32 rfl (by simp)).drew (by simp)).mono ?_); rintro e V2 ⟨mt,mx,mp,mn,f1,f2,rfl,hV⟩; obtain ⟨m,oc,O2,s2,⟨rfl,rfl,rfl,rfl⟩,hRQ,hLSCMF⟩:=hV.out; have hyV:EC w.heap.size h ka kn kc V2:=HSS.out _ _ _ _ _ hLSCMF (by simp); have hl2:w.heap.size < V2.heap.size:=hLSCMF.lt (g:=w.heap.size) (cs:=exL h ka kn kc) (ty:=102) (by simp); obtain ⟨lq,nq,oq,q0,q1,q2,q3,qf,qa0,qa1,qa2,qa3,qg⟩:=hLSCMF.mh (g:=w1.heap.size + 1) (by simp); obtain ⟨lr,nr,or_,r0,r1,rf,ra0,ra1,rg⟩:=hLSCMF.fh (g:=w1.heap.size + 1 + 1) (by simp))
   | (go_at_call 89; (with_reducible refine (HA1.out _ _ _ _ (w1.heap.size + 1) ((HS1.out.allocE (g:=w1.heap.size) [I J 0,I J 0] 32 rfl (by simp)).allocE (g:=w1.heap.size + 1) [.func (.func 82) #[] #[]] 41 rfl (by simp)).drew (by simp)).mono ?_); rintro e V2 ⟨mt,mx,mp,mn,f1,f2,rfl,hV⟩; obtain ⟨m,oc,O2,s2,⟨rfl,rfl,rfl,rfl⟩,hRQ,hLSFC⟩:=hV.out; have hyV:EC w.heap.size h ka kn kc V2:=HSS.out _ _ _ _ _ hLSFC (by simp); have hl2:w.heap.size < V2.heap.size:=hLSFC.lt (g:=w.heap.size) (cs:=exL h ka kn kc) (ty:=102) (by simp); obtain ⟨lr,nr,or_,r0,r1,rf,ra0,ra1,rg⟩:=hLSFC.fh (g:=w1.heap.size) (by simp))
   | (go_at_call 89; (with_reducible refine (HA1.out _ _ _ _ (w1.heap.size + 1) (((HS1.out.allocE (g:=w1.heap.size) [I J 0,I J 0] 32 rfl (by simp)).allocE (g:=w1.heap.size + 1) [.func (.func 82) #[] #[]] 41 rfl (by simp)).allocE (g:=w1.heap.size + 1 + 1) [.bool false,Ψ ⟨#[]⟩,I J 0,I J 0] 109 rfl (by simp)).drew (by simp)).mono ?_); rintro e V2 ⟨mt,mx,mp,mn,f1,f2,rfl,hV⟩; obtain ⟨m,oc,O2,s2,⟨rfl,rfl,rfl,rfl⟩,hRQ,hLSFCM⟩:=hV.out; have hyV:EC w.heap.size h ka kn kc V2:=HSS.out _ _ _ _ _ hLSFCM (by simp); have hl2:w.heap.size < V2.heap.size:=hLSFCM.lt (g:=w.heap.size) (cs:=exL h ka kn kc) (ty:=102) (by simp); obtain ⟨lq,nq,oq,q0,q1,q2,q3,qf,qa0,qa1,qa2,qa3,qg⟩:=hLSFCM.mh (g:=w1.heap.size + 1 + 1) (by simp); obtain ⟨lr,nr,or_,r0,r1,rf,ra0,ra1,rg⟩:=hLSFCM.fh (g:=w1.heap.size) (by simp))
   | (go_at_call 89; (with_reducible refine (HA1.out _ _ _ _ (w1.heap.size + 1 + 1) (((HS1.out.allocE (g:=w1.heap.size) [I J 0,I J 0] 32 rfl (by simp)).allocE (g:=w1.heap.size + 1) [.bool false,Ψ ⟨#[]⟩,I J 0,I J 0] 109 rfl (by simp)).allocE (g:=w1.heap.size + 1 + 1) [.func (.func 82) #[] #[]] 41 rfl (by simp)).drew (by simp)).mono ?_); rintro e V2 ⟨mt,mx,mp,mn,f1,f2,rfl,hV⟩; obtain ⟨m,oc,O2,s2,⟨rfl,rfl,rfl,rfl⟩,hRQ,hLSFMC⟩:=hV.out; have hyV:EC w.heap.size h ka kn kc V2:=HSS.out _ _ _ _ _ hLSFMC (by simp); have hl2:w.heap.size < V2.heap.size:=hLSFMC.lt (g:=w.heap.size) (cs:=exL h ka kn kc) (ty:=102) (by simp); obtain ⟨lq,nq,oq,q0,q1,q2,q3,qf,qa0,qa1,qa2,qa3,qg⟩:=hLSFMC.mh (g:=w1.heap.size + 1) (by simp); obtain ⟨lr,nr,or_,r0,r1,rf,ra0,ra1,rg⟩:=hLSFMC.fh (g:=w1.heap.size) (by simp))
   | (go_at_call 89; (with_reducible refine (HA1.out _ _ _ _ (w1.heap.size + 1) ((HS1.out.allocE (g:=w1.heap.size) [.bool false,Ψ ⟨#[]⟩,I J 0,I J 0] 109 rfl (by simp)).allocE (g:=w1.heap.size + 1) [.func (.func 82) #[] #[]] 41 rfl (by simp)).drew (by simp)).mono ?_); rintro e V2 ⟨mt,mx,mp,mn,f1,f2,rfl,hV⟩; obtain ⟨m,oc,O2,s2,⟨rfl,rfl,rfl,rfl⟩,hRQ,hLSMC⟩:=hV.out; have hyV:EC w.heap.size h ka kn kc V2:=HSS.out _ _ _ _ _ hLSMC (by simp); have hl2:w.heap.size < V2.heap.size:=hLSMC.lt (g:=w.heap.size) (cs:=exL h ka kn kc) (ty:=102) (by simp); obtain ⟨lq,nq,oq,q0,q1,q2,q3,qf,qa0,qa1,qa2,qa3,qg⟩:=hLSMC.mh (g:=w1.heap.size) (by simp))
   | (go_at_call 89; (with_reducible refine (HA1.out _ _ _ _ (w1.heap.size + 1) (((HS1.out.allocE (g:=w1.heap.size) [.bool false,Ψ ⟨#[]⟩,I J 0,I J 0] 109 rfl (by simp)).allocE (g:=w1.heap.size + 1) [.func (.func 82) #[] #[]] 41 rfl (by simp)).allocE (g:=w1.heap.size + 1 + 1) [I J 0,I J 0] 32 rfl (by simp)).drew (by simp)).mono ?_); rintro e V2 ⟨mt,mx,mp,mn,f1,f2,rfl,hV⟩; obtain ⟨m,oc,O2,s2,⟨rfl,rfl,rfl,rfl⟩,hRQ,hLSMCF⟩:=hV.out; have hyV:EC w.heap.size h ka kn kc V2:=HSS.out _ _ _ _ _ hLSMCF (by simp); have hl2:w.heap.size < V2.heap.size:=hLSMCF.lt (g:=w.heap.size) (cs:=exL h ka kn kc) (ty:=102) (by simp); obtain ⟨lq,nq,oq,q0,q1,q2,q3,qf,qa0,qa1,qa2,qa3,qg⟩:=hLSMCF.mh (g:=w1.heap.size) (by simp); obtain ⟨lr,nr,or_,r0,r1,rf,ra0,ra1,rg⟩:=hLSMCF.fh (g:=w1.heap.size + 1 + 1) (by simp))
   | (go_at_call 89; (with_reducible refine (HA1.out _ _ _ _ (w1.heap.size + 1 + 1) (((HS1.out.allocE (g:=w1.heap.size) [.bool false,Ψ ⟨#[]⟩,I J 0,I J 0] 109 rfl (by simp)).allocE (g:=w1.heap.size + 1) [I J 0,I J 0] 32 rfl (by simp)).allocE (g:=w1.heap.size + 1 + 1) [.func (.func 82) #[] #[]] 41 rfl (by simp)).drew (by simp)).mono ?_); rintro e V2 ⟨mt,mx,mp,mn,f1,f2,rfl,hV⟩; obtain ⟨m,oc,O2,s2,⟨rfl,rfl,rfl,rfl⟩,hRQ,hLSMFC⟩:=hV.out; have hyV:EC w.heap.size h ka kn kc V2:=HSS.out _ _ _ _ _ hLSMFC (by simp); have hl2:w.heap.size < V2.heap.size:=hLSMFC.lt (g:=w.heap.size) (cs:=exL h ka kn kc) (ty:=102) (by simp); obtain ⟨lq,nq,oq,q0,q1,q2,q3,qf,qa0,qa1,qa2,qa3,qg⟩:=hLSMFC.mh (g:=w1.heap.size) (by simp); obtain ⟨lr,nr,or_,r0,r1,rf,ra0,ra1,rg⟩:=hLSMFC.fh (g:=w1.heap.size + 1) (by simp)))
  all_goals (go_wp2_with fail; go_meet)
  all_goals (first
   | (have hf:=((((hLSMFC.front (L1:=[_,_]) rfl).store109 m rfl rfl).front (L1:=[_,_]) rfl).store32 (f0:=(0,0)) (f1,f2) rfl); refine ⟨w1.heap.size,w1.heap.size + 1,m.isText,bs m.text,m.place,m.num,f1,f2,rfl,rfl,?_⟩; unfold AR; refine ⟨m,oc,O2,s2,⟨hRQ,rfl,rfl,rfl,rfl⟩,?_⟩; have hg:=hf.sub (L':=[(w1.heap.size,mnL m,109),(w1.heap.size + 1,flL (f1,f2),32),(w.heap.size + 1,flL (0,0),32)]) (by simp [mnL,flL]) (by have:=hf.nd; simp at this ⊢; omega); with_reducible exact hg)
   | (have hf:=((((hLSMCF.front (L1:=[_,_]) rfl).store109 m rfl rfl).front (L1:=[_]) rfl).store32 (f0:=(0,0)) (f1,f2) rfl); refine ⟨w1.heap.size,w1.heap.size + 1 + 1,m.isText,bs m.text,m.place,m.num,f1,f2,rfl,rfl,?_⟩; unfold AR; refine ⟨m,oc,O2,s2,⟨hRQ,rfl,rfl,rfl,rfl⟩,?_⟩; have hg:=hf.sub (L':=[(w1.heap.size,mnL m,109),(w1.heap.size + 1 + 1,flL (f1,f2),32),(w.heap.size + 1,flL (0,0),32)]) (by simp [mnL,flL]) (by have:=hf.nd; simp at this ⊢; omega); with_reducible exact hg)
   | (have hf:=(((hLSMC.front (L1:=[_]) rfl).store109 m rfl rfl).allocE (g:=V2.heap.size) [I J f1,I J f2] 32 rfl (by simp)); refine ⟨w1.heap.size,V2.heap.size,m.isText,bs m.text,m.place,m.num,f1,f2,rfl,rfl,?_⟩; unfold AR; refine ⟨m,oc,O2,s2,⟨hRQ,rfl,rfl,rfl,rfl⟩,?_⟩; have hg:=hf.sub (L':=[(w1.heap.size,mnL m,109),(V2.heap.size,flL (f1,f2),32),(w.heap.size + 1,flL (0,0),32)]) (by simp [mnL,flL]) (by have:=hf.nd; simp at this ⊢; omega); with_reducible exact hg)
   | (have hf:=((((hLSFMC.front (L1:=[_]) rfl).store109 m rfl rfl).front (L1:=[_,_]) rfl).store32 (f0:=(0,0)) (f1,f2) rfl); refine ⟨w1.heap.size + 1,w1.heap.size,m.isText,bs m.text,m.place,m.num,f1,f2,rfl,rfl,?_⟩; unfold AR; refine ⟨m,oc,O2,s2,⟨hRQ,rfl,rfl,rfl,rfl⟩,?_⟩; have hg:=hf.sub (L':=[(w1.heap.size + 1,mnL m,109),(w1.heap.size,flL (f1,f2),32),(w.heap.size + 1,flL (0,0),32)]) (by simp [mnL,flL]) (by have:=hf.nd; simp at this ⊢; omega); with_reducible exact hg)
   | (have hf:=(((hLSFCM.store109 m rfl rfl).front (L1:=[_,_]) rfl).store32 (f0:=(0,0)) (f1,f2) rfl); refine ⟨w1.heap.size + 1 + 1,w1.heap.size,m.isText,bs m.text,m.place,m.num,f1,f2,rfl,rfl,?_⟩; unfold AR; refine ⟨m,oc,O2,s2,⟨hRQ,rfl,rfl,rfl,rfl⟩,?_⟩; have hg:=hf.sub (L':=[(w1.heap.size + 1 + 1,mnL m,109),(w1.heap.size,flL (f1,f2),32),(w.heap.size + 1,flL (0,0),32)]) (by simp [mnL,flL]) (by have:=hf.nd; simp at this ⊢; omega); with_reducible exact hg)
   | (have hf:=(((hLSFC.front (L1:=[_]) rfl).store32 (f0:=(0,0)) (f1,f2) rfl).allocE (g:=V2.heap.size) [.bool m.isText,Ψ (bs m.text),I J m.place,I J m.num] 109 rfl (by simp)); refine ⟨V2.heap.size,w1.heap.size,m.isText,bs m.text,m.place,m.num,f1,f2,rfl,rfl,?_⟩; unfold AR; refine ⟨m,oc,O2,s2,⟨hRQ,rfl,rfl,rfl,rfl⟩,?_⟩; have hg:=hf.sub (L':=[(V2.heap.size,mnL m,109),(w1.heap.size,flL (f1,f2),32),(w.heap.size + 1,flL (0,0),32)]) (by simp [mnL,flL]) (by have:=hf.nd; simp at this ⊢; omega); with_reducible exact hg)
   | (have hf:=((((hLSCMF.front (L1:=[_]) rfl).store109 m rfl rfl).front (L1:=[_]) rfl).store32 (f0:=(0,0)) (f1,f2) rfl); refine ⟨w1.heap.size + 1,w1.heap.size + 1 + 1,m.isText,bs m.text,m.place,m.num,f1,f2,rfl,rfl,?_⟩; unfold AR; refine ⟨m,oc,O2,s2,⟨hRQ,rfl,rfl,rfl,rfl⟩,?_⟩; have hg:=hf.sub (L':=[(w1.heap.size + 1,mnL m,109),(w1.heap.size + 1 + 1,flL (f1,f2),32),(w.heap.size + 1,flL (0,0),32)]) (by simp [mnL,flL]) (by have:=hf.nd; simp at this ⊢; omega); with_reducible exact hg)
   | (have hf:=((hLSCM.store109 m rfl rfl).allocE (g:=V2.heap.size) [I J f1,I J f2] 32 rfl (by simp)); refine ⟨w1.heap.size + 1,V2.heap.size,m.isText,bs m.text,m.place,m.num,f1,f2,rfl,rfl,?_⟩; unfold AR; refine ⟨m,oc,O2,s2,⟨hRQ,rfl,rfl,rfl,rfl⟩,?_⟩; have hg:=hf.sub (L':=[(w1.heap.size + 1,mnL m,109),(V2.heap.size,flL (f1,f2),32),(w.heap.size + 1,flL (0,0),32)]) (by simp [mnL,flL]) (by have:=hf.nd; simp at this ⊢; omega); with_reducible exact hg)
   | (have hf:=(((hLSCFM.store109 m rfl rfl).front (L1:=[_]) rfl).store32 (f0:=(0,0)) (f1,f2) rfl); refine ⟨w1.heap.size + 1 + 1,w1.heap.size + 1,m.isText,bs m.text,m.place,m.num,f1,f2,rfl,rfl,?_⟩; unfold AR; refine ⟨m,oc,O2,s2,⟨hRQ,rfl,rfl,rfl,rfl⟩,?_⟩; have hg:=hf.sub (L':=[(w1.heap.size + 1 + 1,mnL m,109),(w1.heap.size + 1,flL (f1,f2),32),(w.heap.size + 1,flL (0,0),32)]) (by simp [mnL,flL]) (by have:=hf.nd; simp at this ⊢; omega); with_reducible exact hg)
   | (have hf:=((hLSCF.store32 (f0:=(0,0)) (f1,f2) rfl).allocE (g:=V2.heap.size) [.bool m.isText,Ψ (bs m.text),I J m.place,I J m.num] 109 rfl (by simp)); refine ⟨V2.heap.size,w1.heap.size + 1,m.isText,bs m.text,m.place,m.num,f1,f2,rfl,rfl,?_⟩; unfold AR; refine ⟨m,oc,O2,s2,⟨hRQ,rfl,rfl,rfl,rfl⟩,?_⟩; have hg:=hf.sub (L':=[(V2.heap.size,mnL m,109),(w1.heap.size + 1,flL (f1,f2),32),(w.heap.size + 1,flL (0,0),32)]) (by simp [mnL,flL]) (by have:=hf.nd; simp at this ⊢; omega); with_reducible exact hg)
   | (have hf:=((hLSC.allocE (g:=V2.heap.size) [.bool m.isText,Ψ (bs m.text),I J m.place,I J m.num] 109 rfl (by simp)).allocE (g:=V2.heap.size + 1) [I J f1,I J f2] 32 rfl (by simp)); refine ⟨V2.heap.size,V2.heap.size + 1,m.isText,bs m.text,m.place,m.num,f1,f2,rfl,rfl,?_⟩; unfold AR; refine ⟨m,oc,O2,s2,⟨hRQ,rfl,rfl,rfl,rfl⟩,?_⟩; have hg:=hf.sub (L':=[(V2.heap.size,mnL m,109),(V2.heap.size + 1,flL (f1,f2),32),(w.heap.size + 1,flL (0,0),32)]) (by simp [mnL,flL]) (by have:=hf.nd; simp at this ⊢; omega); with_reducible exact hg)
   | (have hf:=((hLSC.allocE (g:=V2.heap.size) [I J f1,I J f2] 32 rfl (by simp)).allocE (g:=V2.heap.size + 1) [.bool m.isText,Ψ (bs m.text),I J m.place,I J m.num] 109 rfl (by simp)); refine ⟨V2.heap.size + 1,V2.heap.size,m.isText,bs m.text,m.place,m.num,f1,f2,rfl,rfl,?_⟩; unfold AR; refine ⟨m,oc,O2,s2,⟨hRQ,rfl,rfl,rfl,rfl⟩,?_⟩; have hg:=hf.sub (L':=[(V2.heap.size + 1,mnL m,109),(V2.heap.size,flL (f1,f2),32),(w.heap.size + 1,flL (0,0),32)]) (by simp [mnL,flL]) (by have:=hf.nd; simp at this ⊢; omega); with_reducible exact hg))
 case rest=>
  obtain ⟨g5,g6,mt,mx,mp,mn,f1,f2,rfl,rfl,m,oc,O2,s2,⟨hRQ,e1,e2,e3,e4⟩,hL⟩:=hcut
  clear HA1 HSS HS1
  cases r1 with
  | error f'=>
    obtain ⟨rfl,hf,-,rfl⟩:=hRQ
    have HX2:Hid (alphabetB c (h,k) = .error (f1,f2)):=HX.out
    have HF:Hid (f1 ≠ 0):=hf
    have hq:(f1 == 0) = false:=by rw [beq_eq_false_iff_ne]; exact hf
    have HL:=hid hL
    have y0:wc.cell? ⟨g6,0,none⟩ = some (I J f1):=HL.out.at (g:=g6) (cs:=flL (f1,f2)) (ty:=32) (by simp) rfl
    have y1:wc.cell? ⟨g6,1,none⟩ = some (I J f2):=HL.out.at (g:=g6) (cs:=flL (f1,f2)) (ty:=32) (by simp) rfl
    have z0:wc.cell? ⟨w.heap.size + 1,0,none⟩ = some (I J 0):=HL.out.at (g:=w.heap.size + 1) (cs:=flL (0,0)) (ty:=32) (by simp) rfl
    have z1:wc.cell? ⟨w.heap.size + 1,1,none⟩ = some (I J 0):=HL.out.at (g:=w.heap.size + 1) (cs:=flL (0,0)) (ty:=32) (by simp) rfl
    have zf:∀ i,wc.frozen? ⟨w.heap.size + 1,i,none⟩ = false:=fun i=>HL.out.fz (g:=w.heap.size + 1) (cs:=flL (0,0)) (ty:=32) (by simp) i
    clear HX HT hf hL e1 e2 e3 e4
    go_wp2
    refine bodyPost_ret (v:=flV (f1,f2)) ?_ rfl ?_
    ·simp only [results,hres]
     unfold flV
     simp only
     go_simp
    ·show TPost _ _ _ _ _ _
     rw [HX2.out]
     exact ⟨HF.out,rfl,(HL.out.fr.setCell (.inr (by omega)) _ _).setCell (.inr (by omega)) _ _⟩
  | ok x=>
    obtain ⟨c1,m'⟩:=x
    obtain ⟨hf,rfl,rfl⟩:=hRQ
    cases hf
    have hfew:=right_few (HT.out _ _ rfl)
    obtain ⟨bt,hbt⟩:∃ bt,bt = bs m.text:=⟨_,rfl⟩
    have hsz:bt.size = m.text.length:=by rw [hbt,bs_size]
    obtain ⟨NN,hNN⟩:∃ NN,NN = bt.size * bt.size:=⟨_,rfl⟩
    have hN1:1 <= NN:=by rw [hNN]; exact Nat.mul_pos (by omega) (by omega)
    have hN2:NN <= 400:=by rw [hNN]; exact Nat.mul_le_mul (show bt.size <= 20 by omega) (show bt.size <= 20 by omega)
    have HM:Hid (wrap64 ((bt.size:Int) * (bt.size:Int)) = (NN:Int)):=by
     show _ = _
     rw [<- Int.natCast_mul,<- hNN]
     unfold wrap64
     omega
    have HX2:Hid (alphabetB c (h,k) = .ok { c1 with letters:=m.text,subst:=List.replicate NN (-1) }):=by show _ = _; rw [HX.out,hNN,hsz]; rfl
    have HL:=hid hL
    have y0:wc.cell? ⟨g6,0,none⟩ = some (I J 0):=HL.out.at (g:=g6) (cs:=flL (0,0)) (ty:=32) (by simp) rfl
    have y1:wc.cell? ⟨g5,1,none⟩ = some (.string bt):=by rw [hbt]; exact HL.out.at (g:=g5) (cs:=mnL m) (ty:=109) (by simp) rfl
    have b0:wc.cell? ⟨b,0,none⟩ = some (Ψ (bs c1.letters)):=(HL.out.ck _ rfl).1.c0
    have bf:wc.frozen? ⟨b,0,none⟩ = false:=(HL.out.ck _ rfl).1.fz 0
    have HCK:Hid (CkAt O2 b s2 { c1 with letters:=m.text } (wc.setCell ⟨b,0,none⟩ (.string bt))):=by
     rw [hbt]; exact (HL.out.ck _ rfl).1.put rfl rfl rfl rfl rfl rfl
    have HFR:Hid (Fr O w (wc.setCell ⟨b,0,none⟩ (.string bt)) /\ (∀ g,O2 g -> O g \/ w.heap.size <= g) /\ ¬ O2 (w.heap.size + 1) /\ (wc.setCell ⟨b,0,none⟩ (.string bt)).heap[w.heap.size + 1]? = some (Δ #[I J 0,I J 0] 32 (0,0))):=by
     have hl:=HL.out.loc (w.heap.size + 1,flL (0,0),32) (by simp)
     have hb2:=(HL.out.ck _ rfl).1.inB
     exact ⟨HL.out.fr.setCell (HL.out.new b hb2) _ _,HL.out.new,hl.1.off,(hl.1.other (fun e=>hl.1.off (by rw [e]; exact hb2)) 0 (.string bt)).heap⟩
    clear HX HT hL e1 e2 e3 e4 hfew hsz hNN hbt HL
    go_upto_region 6 with (fail)
    clear y0 y1 b0 bf
    generalize wc.setCell ⟨b,0,none⟩ (.string bt) = wd at *
    have hRlt:w.heap.size + 1 < wd.heap.size:=lt_block HFR.out.2.2.2
    have HRP:Hid (Calls Tryz.prog 91 #[Γ (some ⟨wd.heap.size,0,none⟩) 1 1,I J (NN:Int)] (wd.alloc (Δ #[I J (-1)] 3)) fun e V=>e = Ω (Γ (some ⟨wd.heap.size + 1,0,none⟩) NN NN) /\ V.cell? ⟨b,2,none⟩ = some s2.sv /\ V.frozen? ⟨b,2,none⟩ = false /\ V.cell? ⟨w.heap.size + 1,0,none⟩ = some (I J 0) /\ V.cell? ⟨w.heap.size + 1,1,none⟩ = some (I J 0) /\ (∀ i,V.frozen? ⟨w.heap.size + 1,i,none⟩ = false) /\ Hid (Below wd.heap.size wd V /\ V.heap[wd.heap.size + 1]? = some (Δ (itRow (List.replicate NN (-1))).toArray 3 (0,0)))):=by
     refine (repeat_calls NN wd.heap.size (wd.alloc (Δ #[I J (-1)] 3)) hN1 hN2 (heap_alloc_new wd _)).mono ?_
     rintro e V ⟨rfl,hv1,hv2⟩
     have hal:(wd.alloc (Δ #[I J (-1)] 3)).heap.size = wd.heap.size + 1:=by simp
     rw [hal] at hv1 hv2 ⊢
     have hB1:Below wd.heap.size wd V:=((Below.refl wd.heap.size wd).alloc (Nat.le_refl _) _).trans ⟨hv2.os,hv2.tape,hv2.output,hv2.size,fun q hq=>hv2.block q (by omega)⟩
     have hck:=HCK.out.below hB1
     have hR:V.heap[w.heap.size + 1]? = some (Δ #[I J 0,I J 0] 32 (0,0)):=by rw [hB1.block _ hRlt]; exact HFR.out.2.2.2
     rw [rp_all] at hv1
     exact ⟨rfl,hck.c2,hck.fz 2,blk hR rfl,blk hR rfl,fun i=>blkf i hR,hB1,hv1⟩
    clear hN1
    go_wp2_with (go_at_call 91; rw [HM.out]; refine HRP.out.mono ?_; rintro e V ⟨rfl,hc2,hf2,z0,z1,zf,HV⟩)
    refine bodyPost_ret (v:=flV (0,0)) ?_ rfl ?_
    ·simp only [results,hres]
     unfold flV
     simp only
     go_simp
    ·show TPost _ _ _ _ _ _
     rw [HX2.out]
     have hset:=HCK.out.setSub HV.out.1 (g:=wd.heap.size + 1) (N:=NN) (l:=List.replicate NN (-1)) (by omega) HV.out.2 (by simp) (by unfold maxLen; omega)
     have hoff:¬ (O2 (w.heap.size + 1) \/ wd.heap.size <= w.heap.size + 1):=fun ho=>by
      rcases ho with h1 | h1
      ·exact HFR.out.2.2.1 h1
      ·omega
     have hfr:Fr O w V:=HFR.out.1.then_new ⟨HV.out.1.os,HV.out.1.tape,HV.out.1.output,HV.out.1.size,fun q hq=>HV.out.1.block q (by have:=HFR.out.1.size; omega)⟩
     refine ⟨rfl,((hfr.setCell (HFR.out.2.1 b HCK.out.inB) _ _).setCell (.inr (by omega)) _ _).setCell (.inr (by omega)) _ _,_,_,fun q hq=>?_,ck_set (ck_set hset hoff _ _) hoff _ _⟩
     rcases hq with h1 | h1
     ·exact HFR.out.2.1 q h1
     ·exact .inr (by have:=HFR.out.1.size; omega)
end Go.Proofs.YtlaodgdlkkmmeaaGreat
