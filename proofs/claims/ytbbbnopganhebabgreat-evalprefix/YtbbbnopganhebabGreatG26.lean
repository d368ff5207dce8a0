/-
  Right: lists of expressions. Right: items, trees.
-/
import Derived.Test.YtbbbnopganhebabGreatG25
namespace Go.Proofs.YtbbbnopganhebabGreat
open Go.RowKit Go.Deep
open Go.Value renaming int->I
open Go.IntKind renaming i64->J
set_option maxRecDepth 20000
set_option maxHeartbeats 4000000
/-- All of a list are right, none deeper than that. -/
def rgtF:Nat -> Fo -> Bool
 | _,.nil=>true
 | d,.node _ _ h k r=>decide (d ≠ 0) && (hdRight h (lenF k) && (rgtF (d - 1) k && rgtF d r))
theorem rightAll_calls:∀ (N:Nat) (F:Fo) (ao:Option Addr) (n c:Nat) (d:Nat) (w:World) (o:Bool) (S:Nat -> Prop),FoAt o S w F ao n -> n <= maxLen -> d <= 32 -> szF F < N ->
 Calls Tryz.prog 128 #[.slice ao n c,I J (d:Int)] w fun e' w'=>e' = .returned (.bool (rgtF d F)) /\ Below w.heap.size w w'
 | 0,_,_,_,_,_,_,_,_,_,_,_,h=>by omega
 | N + 1,F,ao,n,c,d,w,o,S,hF,hn,hd,hN=>by
   have IH:Hid (∀ (F:Fo) (ao:Option Addr) (n c:Nat) (d:Nat) (w:World),FoAt o S w F ao n -> n <= maxLen -> d <= 32 -> szF F < N ->
    Calls Tryz.prog 128 #[.slice ao n c,I J (d:Int)] w fun e' w'=>e' = .returned (.bool (rgtF d F)) /\ Below w.heap.size w w'):=fun F ao n c d w h1 h2 h3 h4=>rightAll_calls N F ao n c d w o S h1 h2 h3 h4
   have hn2:=hn
   unfold maxLen at hn2
   obtain ⟨g,off,hka,hF'⟩:=foAt_addr hF
   generalize hD:rgtF d F = D at *
   have H0:Hid (FoAt o S w F (some ⟨g,off + 0 * 5,none⟩) (n - 0) /\ szF F <= N /\ rgtF d F = D):=⟨hF',by omega,hD⟩
   clear hF hF' hD hN
   go_enter Tryz.func128,Tryz.ntmps128
   go_wp2_with fail
   go_loopg [9] n (fun k iv wr=>∃ (F':Fo) (i:Nat),iv = I J (i:Int) /\ i + k = n /\ Hid (FoAt o S wr F' (some ⟨g,off + i * 5,none⟩) (n - i) /\ szF F' <= N /\ rgtF d F' = D /\ Below w.heap.size w wr))
   case atStart=>exact ⟨F,0,rfl,by omega,H0.out.1,H0.out.2.1,H0.out.2.2,Below.refl _ _⟩
   case round=>
    clear H0
    obtain ⟨F',i,rfl,hik,HT⟩:=hrel
    by_cases hi:i < n
    ·obtain ⟨b1,o1,h1,k1,r1,ka1,kc1,kk1,rfl,-,hok1,hkc1,⟨c0,c1,c2,c3,c4⟩,hk1,hr1⟩:=foAt_head HT.out.1 hi
     have hka2:=hka (by omega)
     subst hka2
     have hbx:∀ o',Below wr.heap.size wr (wr.alloc o'):=fun o'=>(Below.refl _ _).alloc (Nat.le_refl _) o'
     have HR:Hid (FoAt o S wr r1 (some ⟨g,off + (i + 1) * 5,none⟩) (n - (i + 1)) /\ szF k1 < N /\ szF r1 <= N /\ (decide (d ≠ 0) && (hdRight h1 (lenF k1) && (rgtF (d - 1) k1 && rgtF d r1))) = D /\ Below w.heap.size w wr):=by
      obtain ⟨_,h3,h4,h5⟩:=HT.out
      simp only [szF] at h3
      exact ⟨hr1,by omega,by omega,h4,h5⟩
     have HHd:Hid (∀ W,Calls Tryz.prog 153 #[.agg #[I J h1.kind,I J h1.num,.string (bs h1.text),.slice ka1 kc1 kk1,I J h1.pl]] W fun e w'=>e = .returned (.bool (hdRight h1 (lenF k1))) /\ Below W.heap.size W w'):=fun W=>by
      have:=head_calls h1 ka1 kc1 kk1 W hkc1 hok1.text
      rw [foAt_len hk1] at this ⊢; exact this
     have HKd:Hid (0 < d -> ∀ W,Below wr.heap.size wr W -> Calls Tryz.prog 128 #[.slice ka1 kc1 kk1,I J ((d:Int) - 1)] W fun e' w'=>e' = .returned (.bool (rgtF (d - 1) k1)) /\ Below W.heap.size W w'):=fun h0 W hW=>by
      have:=IH.out k1 ka1 kc1 kk1 (d - 1) W (hk1.below hW) hkc1 (by omega) HR.out.2.1
      rw [show ((d - 1:Nat):Int) = (d:Int) - 1 by omega] at this
      exact this
     have HBw:Hid (∀ o',Below w.heap.size w (wr.alloc o')):=fun o'=>HR.out.2.2.2.2.trans ((hbx o').mono HR.out.2.2.2.2.size)
     have HNw:Hid ((wr.alloc (.cells #[I J h1.kind,I J h1.num,.string (bs h1.text),.slice ka1 kc1 kk1,I J h1.pl] 173)).heap[wr.heap.size]? = some (.cells #[I J h1.kind,I J h1.num,.string (bs h1.text),.slice ka1 kc1 kk1,I J h1.pl] 173 (0,0))):=heap_alloc_new wr _
     have HBx:Hid (∀ o',Below wr.heap.size wr (wr.alloc o')):=hbx
     clear HT hk1 hr1 hok1 hkc1 IH hbx
     by_cases hd0:d = 0
     ·have q:((d:Int) == 0) = true:=by rw [beq_iff_eq]; omega
      have HX:Hid (D = false):=by show D = false; rw [<- HR.out.2.2.2.1]; simp [hd0]
      clear HR HHd HKd hd0
      go_wp2
      go_ret
      exact ⟨ret_bool HX.out.symm,HBw.out _⟩
     ·have q:((d:Int) == 0) = false:=by rw [beq_eq_false_iff_ne]; omega
      have HK2:=HKd.out (by omega)
      have HK3:Hid (∀ W,Below wr.heap.size wr W -> Calls Tryz.prog 128 #[.slice ka1 kc1 kk1,I J ((d:Int) - 1)] W fun e' w'=>e' = .returned (.bool (rgtF (d - 1) k1)) /\ Below W.heap.size W w'):=HK2
      have HR':Hid (FoAt o S wr r1 (some ⟨g,off + (i + 1) * 5,none⟩) (n - (i + 1)) /\ szF r1 <= N /\ (hdRight h1 (lenF k1) && (rgtF (d - 1) k1 && rgtF d r1)) = D /\ Below w.heap.size w wr):=by
       obtain ⟨a1,_,a3,a4,a5⟩:=HR.out
       rw [show decide (d ≠ 0) = true by simp [hd0],Bool.true_and] at a4
       exact ⟨a1,a3,a4,a5⟩
      clear HR HKd HK2
      cases hh:hdRight h1 (lenF k1) with
      | false=>
        rw [hh] at HHd HR'
        go_wp2_with fail
        refine (HHd.out _).mono ?_
        rintro e' w3 ⟨rfl,hb3⟩
        have HX:Hid (D = false /\ Below w.heap.size w w3):=⟨by rw [<- HR'.out.2.2.1]; simp,(HBw.out _).trans (hb3.mono (HBw.out _).size)⟩
        clear hb3 HR' HHd HBw HK3
        go_wp2
        go_ret
        exact ⟨ret_bool HX.out.1.symm,HX.out.2⟩
      | true=>
        rw [hh] at HHd HR'
        cases hk:rgtF (d - 1) k1 with
        | false=>
          rw [hk] at HK3 HR'
          go_wp2_with fail
          refine (HHd.out _).mono ?_
          rintro e' w3 ⟨rfl,hb3⟩
          have h35:w3.heap[wr.heap.size]? = some (.cells #[I J h1.kind,I J h1.num,.string (bs h1.text),.slice ka1 kc1 kk1,I J h1.pl] 173 (0,0)):=by rw [hb3.block _ (lt_block HNw.out)]; exact HNw.out
          have e3:=blk (i:=3) h35 rfl
          have HB3:Hid (Below wr.heap.size wr w3 /\ Below w.heap.size w w3):=⟨below_box' hb3,(HBw.out _).trans (hb3.mono (HBw.out _).size)⟩
          clear hb3 h35 HHd HNw
          go_wp2_with fail
          refine (HK3.out _ HB3.out.1).mono ?_
          rintro e' w4 ⟨rfl,hb4⟩
          have HX:Hid (D = false /\ Below w.heap.size w w4):=⟨by rw [<- HR'.out.2.2.1]; simp,HB3.out.2.trans (hb4.mono HB3.out.2.size)⟩
          clear hb4 HR' HBw HK3
          go_wp2
          go_ret
          exact ⟨ret_bool HX.out.1.symm,HX.out.2⟩
        | true=>
          rw [hk] at HK3 HR'
          go_wp2_with fail
          refine (HHd.out _).mono ?_
          rintro e' w3 ⟨rfl,hb3⟩
          have h35:w3.heap[wr.heap.size]? = some (.cells #[I J h1.kind,I J h1.num,.string (bs h1.text),.slice ka1 kc1 kk1,I J h1.pl] 173 (0,0)):=by rw [hb3.block _ (lt_block HNw.out)]; exact HNw.out
          have e3:=blk (i:=3) h35 rfl
          have HB3:Hid (Below wr.heap.size wr w3 /\ Below w.heap.size w w3):=⟨below_box' hb3,(HBw.out _).trans (hb3.mono (HBw.out _).size)⟩
          clear hb3 h35 HHd HNw
          go_wp2_with fail
          refine (HK3.out _ HB3.out.1).mono ?_
          rintro e' w4 ⟨rfl,hb4⟩
          have HX:Hid (FoAt o S w4 r1 (some ⟨g,off + (i + 1) * 5,none⟩) (n - (i + 1)) /\ szF r1 <= N /\ rgtF d r1 = D /\ Below w.heap.size w w4):=by
           obtain ⟨a1,a2,a3,a4⟩:=HR'.out
           have hb5:=HB3.out.1.trans (hb4.mono HB3.out.1.size)
           exact ⟨a1.below hb5,a2,by simpa using a3,a4.trans (hb5.mono a4.size)⟩
          clear hb4 HR' HBw HK3 HB3
          go_wp2_with fail
          go_roundg (gk - 1)
          case measure=>omega
          case rel=>exact ⟨r1,i + 1,by go_num,by omega,HX.out⟩
    ·have HX:Hid (D = true /\ Below w.heap.size w wr):=by
      obtain ⟨a1,_,a4,a5⟩:=HT.out
      rw [show n - i = 0 by omega] at a1
      rw [foAt_end a1] at a4
      exact ⟨a4.symm,a5⟩
     clear HT
     go_wp2
     go_ret
     exact ⟨ret_bool HX.out.1.symm,HX.out.2⟩
set_option maxRecDepth 20000
set_option maxHeartbeats 4000000
def itRight (i:It):Bool:=
 if i.kind = 1 then nameB i.name && (decide (lenF i.args = 1) && rgtF 32 i.args)
 else if i.kind = 7 then isWayB i.name && decide (lenF i.args = 0)
 else if i.kind = 2 \/ i.kind = 3 \/ i.kind = 4 \/ i.kind = 10 then decide (i.name = []) && (decide (lenF i.args = 1) && rgtF 32 i.args)
 else if i.kind = 5 \/ i.kind = 6 \/ i.kind = 8 \/ i.kind = 9 then decide (i.name = []) && (decide (lenF i.args = 2) && rgtF 32 i.args)
 else false
def treeRight (L:List It):Bool:=decide (L.length <= 100) && L.all itRight
theorem it_1 {o:Bool} {S:Nat -> Prop} (i:It) (ka:Option Addr) (n c:Nat) (w:World) (hF:FoAt o S w i.args ka n) (hn:n <= maxLen) (hk:i.kind = 1) :
 Calls Tryz.prog 88 #[.agg #[I J i.kind,.string (bs i.name),.slice ka n c,I J i.pl]] w fun e w'=>e = .returned (.bool (nameB i.name && (decide (lenF i.args = 1) && rgtF 32 i.args))) /\ Below w.heap.size w w':=by
 have HN:Hid (∀ w,Calls Tryz.prog 127 #[.string (bs i.name)] w fun e w'=>e = .returned (.bool (nameB i.name)) /\ Below w.heap.size w w'):=fun w=>by
  have:=isName_calls (bs i.name) w
  rw [bs_list] at this; exact this
 have hlen:=foAt_len hF
 have HA:Hid (∀ W,Below w.heap.size w W -> Calls Tryz.prog 128 #[.slice ka n c,I J 32] W fun e w'=>e = .returned (.bool (rgtF 32 i.args)) /\ Below W.heap.size W w'):=fun W hW=>rightAll_calls _ i.args ka n c 32 W o S (hF.below hW) hn (Nat.le_refl _) (Nat.lt_succ_self _)
 have hbx:Below w.heap.size w (w.alloc (.cells #[I J i.kind,.string (bs i.name),.slice ka n c,I J i.pl] 140)):=(Below.refl _ _).alloc (Nat.le_refl _) _
 have hnw:=heap_alloc_new w (.cells #[I J i.kind,.string (bs i.name),.slice ka n c,I J i.pl] 140)
 have HB:Hid (Below w.heap.size w (w.alloc (.cells #[I J i.kind,.string (bs i.name),.slice ka n c,I J i.pl] 140)) /\ ((w.alloc (.cells #[I J i.kind,.string (bs i.name),.slice ka n c,I J i.pl] 140))).heap[w.heap.size]? = some (.cells #[I J i.kind,.string (bs i.name),.slice ka n c,I J i.pl] 140 (0,0))):=⟨hbx,hnw⟩
 have k1:(i.kind == 1) = true:=by rw [beq_iff_eq]; omega
 clear hk hbx hnw hF hn
 rw [<- hlen]
 clear hlen
 have b1:((n:Int) == 1) = decide (n = 1):=natB n 1
 generalize nameB i.name = v0 at *
 generalize decide (n = 1) = v1 at *
 generalize rgtF 32 i.args = v2 at *
 cases v0 <;> cases v1 <;> (try cases v2) <;> (
  go_enter Tryz.func88,Tryz.ntmps88
  go_wp2_with fail
  refine (HN.out _).mono ?_
  rintro e w2 ⟨rfl,hb2⟩
  have hk3:w2.heap[w.heap.size]? = some (.cells #[I J i.kind,.string (bs i.name),.slice ka n c,I J i.pl] 140 (0,0)):=by rw [hb2.block _ (lt_block HB.out.2)]; exact HB.out.2
  have c2:=blk (i:=2) hk3 rfl
  have HB2:Hid (Below w.heap.size w w2):=HB.out.1.trans (hb2.mono HB.out.1.size)
  clear hk3 hb2 HN HB
  first
   | (go_wp2
      go_ret
      exact ⟨rfl,HB2.out⟩)
   | (go_wp2_with fail
      refine (HA.out _ HB2.out).mono ?_
      rintro e w3 ⟨rfl,hb3⟩
      have HB3:Hid (Below w.heap.size w w3):=HB2.out.trans (hb3.mono HB2.out.size)
      clear hb3 HA HB2
      go_wp2
      go_ret
      exact ⟨rfl,HB3.out⟩))
theorem it_7 (i:It) (ka:Option Addr) (n c:Nat) (w:World) (hlen:n = lenF i.args) (hk:i.kind = 7) :
 Calls Tryz.prog 88 #[.agg #[I J i.kind,.string (bs i.name),.slice ka n c,I J i.pl]] w fun e w'=>e = .returned (.bool (isWayB i.name && decide (lenF i.args = 0))) /\ Below w.heap.size w w':=by
 have HN:Hid (∀ w,Calls Tryz.prog 129 #[.string (bs i.name)] w fun e w'=>e = .returned (.bool (isWayB i.name)) /\ w' = w):=fun w=>by
  have:=isWay_calls (bs i.name) w
  rw [bs_list] at this; exact this
 have HB:Hid (Below w.heap.size w (w.alloc (.cells #[I J i.kind,.string (bs i.name),.slice ka n c,I J i.pl] 140))):=(Below.refl _ _).alloc (Nat.le_refl _) _
 have k1:(i.kind == 1) = false:=by rw [beq_eq_false_iff_ne]; omega
 have k7:(i.kind == 7) = true:=by rw [beq_iff_eq]; omega
 clear hk
 rw [<- hlen]
 clear hlen
 have b1:((n:Int) == 0) = decide (n = 0):=natB n 0
 generalize isWayB i.name = v0 at *
 generalize decide (n = 0) = v1 at *
 cases v0 <;> cases v1 <;> (
  go_enter Tryz.func88,Tryz.ntmps88
  go_wp2_with (go_at_call 129; refine (HN.out _).mono ?_; rintro e w2 ⟨rfl,rfl⟩)
  go_ret
  exact ⟨rfl,HB.out⟩)
theorem it_2 {o:Bool} {S:Nat -> Prop} (i:It) (ka:Option Addr) (n c:Nat) (w:World) (hF:FoAt o S w i.args ka n) (hn:n <= maxLen) (hk:i.kind = 2) :
 Calls Tryz.prog 88 #[.agg #[I J i.kind,.string (bs i.name),.slice ka n c,I J i.pl]] w fun e w'=>e = .returned (.bool (decide (i.name = []) && (decide (lenF i.args = 1) && rgtF 32 i.args))) /\ Below w.heap.size w w':=by
 have hlen:=foAt_len hF
 have HA:Hid (∀ W,Below w.heap.size w W -> Calls Tryz.prog 128 #[.slice ka n c,I J 32] W fun e w'=>e = .returned (.bool (rgtF 32 i.args)) /\ Below W.heap.size W w'):=fun W hW=>rightAll_calls _ i.args ka n c 32 W o S (hF.below hW) hn (Nat.le_refl _) (Nat.lt_succ_self _)
 have hbx:Below w.heap.size w (w.alloc (.cells #[I J i.kind,.string (bs i.name),.slice ka n c,I J i.pl] 140)):=(Below.refl _ _).alloc (Nat.le_refl _) _
 have hnw:=heap_alloc_new w (.cells #[I J i.kind,.string (bs i.name),.slice ka n c,I J i.pl] 140)
 have HB:Hid (Below w.heap.size w (w.alloc (.cells #[I J i.kind,.string (bs i.name),.slice ka n c,I J i.pl] 140)) /\ ((w.alloc (.cells #[I J i.kind,.string (bs i.name),.slice ka n c,I J i.pl] 140))).heap[w.heap.size]? = some (.cells #[I J i.kind,.string (bs i.name),.slice ka n c,I J i.pl] 140 (0,0))):=⟨hbx,hnw⟩
 have k1:(i.kind == 1) = false:=by rw [beq_eq_false_iff_ne]; omega
 have k7:(i.kind == 7) = false:=by rw [beq_eq_false_iff_ne]; omega
 have k2:(i.kind == 2) = true:=by rw [beq_iff_eq]; omega
 clear hk hbx hnw hF hn
 rw [<- hlen]
 clear hlen
 have b0:((bs i.name).toList == []) = decide (i.name = []):=emptyT _
 have b1:((n:Int) == 1) = decide (n = 1):=natB n 1
 generalize decide (i.name = []) = v0 at *
 generalize decide (n = 1) = v1 at *
 cases v0 with
 | false=>
   go_enter Tryz.func88,Tryz.ntmps88
   go_wp2
   go_ret
   exact ⟨rfl,HB.out.1⟩
 | true=>
   cases v1 with
   | false=>
     go_enter Tryz.func88,Tryz.ntmps88
     go_wp2
     go_ret
     exact ⟨rfl,HB.out.1⟩
   | true=>
     have HA2:Hid (Calls Tryz.prog 128 #[.slice ka n c,I J 32] (w.alloc (.cells #[I J i.kind,.string (bs i.name),.slice ka n c,I J i.pl] 140)) fun e w'=>e = .returned (.bool (rgtF 32 i.args)) /\ Below ((w.alloc (.cells #[I J i.kind,.string (bs i.name),.slice ka n c,I J i.pl] 140))).heap.size (w.alloc (.cells #[I J i.kind,.string (bs i.name),.slice ka n c,I J i.pl] 140)) w'):=HA.out _ HB.out.1
     clear HA
     generalize rgtF 32 i.args = v2 at *
     cases v2 <;> (
      go_enter Tryz.func88,Tryz.ntmps88
      go_wp2_with fail
      refine HA2.out.mono ?_
      rintro e w2 ⟨rfl,hb2⟩
      have HB2:Hid (Below w.heap.size w w2):=HB.out.1.trans (hb2.mono HB.out.1.size)
      clear hb2
      go_wp2
      go_ret
      exact ⟨rfl,HB2.out⟩)
theorem it_3 {o:Bool} {S:Nat -> Prop} (i:It) (ka:Option Addr) (n c:Nat) (w:World) (hF:FoAt o S w i.args ka n) (hn:n <= maxLen) (hk:i.kind = 3) :
 Calls Tryz.prog 88 #[.agg #[I J i.kind,.string (bs i.name),.slice ka n c,I J i.pl]] w fun e w'=>e = .returned (.bool (decide (i.name = []) && (decide (lenF i.args = 1) && rgtF 32 i.args))) /\ Below w.heap.size w w':=by
 have hlen:=foAt_len hF
 have HA:Hid (∀ W,Below w.heap.size w W -> Calls Tryz.prog 128 #[.slice ka n c,I J 32] W fun e w'=>e = .returned (.bool (rgtF 32 i.args)) /\ Below W.heap.size W w'):=fun W hW=>rightAll_calls _ i.args ka n c 32 W o S (hF.below hW) hn (Nat.le_refl _) (Nat.lt_succ_self _)
 have hbx:Below w.heap.size w (w.alloc (.cells #[I J i.kind,.string (bs i.name),.slice ka n c,I J i.pl] 140)):=(Below.refl _ _).alloc (Nat.le_refl _) _
 have hnw:=heap_alloc_new w (.cells #[I J i.kind,.string (bs i.name),.slice ka n c,I J i.pl] 140)
 have HB:Hid (Below w.heap.size w (w.alloc (.cells #[I J i.kind,.string (bs i.name),.slice ka n c,I J i.pl] 140)) /\ ((w.alloc (.cells #[I J i.kind,.string (bs i.name),.slice ka n c,I J i.pl] 140))).heap[w.heap.size]? = some (.cells #[I J i.kind,.string (bs i.name),.slice ka n c,I J i.pl] 140 (0,0))):=⟨hbx,hnw⟩
 have k1:(i.kind == 1) = false:=by rw [beq_eq_false_iff_ne]; omega
 have k7:(i.kind == 7) = false:=by rw [beq_eq_false_iff_ne]; omega
 have k2:(i.kind == 2) = false:=by rw [beq_eq_false_iff_ne]; omega
 have k3:(i.kind == 3) = true:=by rw [beq_iff_eq]; omega
 clear hk hbx hnw hF hn
 rw [<- hlen]
 clear hlen
 have b0:((bs i.name).toList == []) = decide (i.name = []):=emptyT _
 have b1:((n:Int) == 1) = decide (n = 1):=natB n 1
 generalize decide (i.name = []) = v0 at *
 generalize decide (n = 1) = v1 at *
 cases v0 with
 | false=>
   go_enter Tryz.func88,Tryz.ntmps88
   go_wp2
   go_ret
   exact ⟨rfl,HB.out.1⟩
 | true=>
   cases v1 with
   | false=>
     go_enter Tryz.func88,Tryz.ntmps88
     go_wp2
     go_ret
     exact ⟨rfl,HB.out.1⟩
   | true=>
     have HA2:Hid (Calls Tryz.prog 128 #[.slice ka n c,I J 32] (w.alloc (.cells #[I J i.kind,.string (bs i.name),.slice ka n c,I J i.pl] 140)) fun e w'=>e = .returned (.bool (rgtF 32 i.args)) /\ Below ((w.alloc (.cells #[I J i.kind,.string (bs i.name),.slice ka n c,I J i.pl] 140))).heap.size (w.alloc (.cells #[I J i.kind,.string (bs i.name),.slice ka n c,I J i.pl] 140)) w'):=HA.out _ HB.out.1
     clear HA
     generalize rgtF 32 i.args = v2 at *
     cases v2 <;> (
      go_enter Tryz.func88,Tryz.ntmps88
      go_wp2_with fail
      refine HA2.out.mono ?_
      rintro e w2 ⟨rfl,hb2⟩
      have HB2:Hid (Below w.heap.size w w2):=HB.out.1.trans (hb2.mono HB.out.1.size)
      clear hb2
      go_wp2
      go_ret
      exact ⟨rfl,HB2.out⟩)
theorem it_4 {o:Bool} {S:Nat -> Prop} (i:It) (ka:Option Addr) (n c:Nat) (w:World) (hF:FoAt o S w i.args ka n) (hn:n <= maxLen) (hk:i.kind = 4) :
 Calls Tryz.prog 88 #[.agg #[I J i.kind,.string (bs i.name),.slice ka n c,I J i.pl]] w fun e w'=>e = .returned (.bool (decide (i.name = []) && (decide (lenF i.args = 1) && rgtF 32 i.args))) /\ Below w.heap.size w w':=by
 have hlen:=foAt_len hF
 have HA:Hid (∀ W,Below w.heap.size w W -> Calls Tryz.prog 128 #[.slice ka n c,I J 32] W fun e w'=>e = .returned (.bool (rgtF 32 i.args)) /\ Below W.heap.size W w'):=fun W hW=>rightAll_calls _ i.args ka n c 32 W o S (hF.below hW) hn (Nat.le_refl _) (Nat.lt_succ_self _)
 have hbx:Below w.heap.size w (w.alloc (.cells #[I J i.kind,.string (bs i.name),.slice ka n c,I J i.pl] 140)):=(Below.refl _ _).alloc (Nat.le_refl _) _
 have hnw:=heap_alloc_new w (.cells #[I J i.kind,.string (bs i.name),.slice ka n c,I J i.pl] 140)
 have HB:Hid (Below w.heap.size w (w.alloc (.cells #[I J i.kind,.string (bs i.name),.slice ka n c,I J i.pl] 140)) /\ ((w.alloc (.cells #[I J i.kind,.string (bs i.name),.slice ka n c,I J i.pl] 140))).heap[w.heap.size]? = some (.cells #[I J i.kind,.string (bs i.name),.slice ka n c,I J i.pl] 140 (0,0))):=⟨hbx,hnw⟩
 have k1:(i.kind == 1) = false:=by rw [beq_eq_false_iff_ne]; omega
 have k7:(i.kind == 7) = false:=by rw [beq_eq_false_iff_ne]; omega
 have k2:(i.kind == 2) = false:=by rw [beq_eq_false_iff_ne]; omega
 have k3:(i.kind == 3) = false:=by rw [beq_eq_false_iff_ne]; omega
 have k4:(i.kind == 4) = true:=by rw [beq_iff_eq]; omega
 clear hk hbx hnw hF hn
 rw [<- hlen]
 clear hlen
 have b0:((bs i.name).toList == []) = decide (i.name = []):=emptyT _
 have b1:((n:Int) == 1) = decide (n = 1):=natB n 1
 generalize decide (i.name = []) = v0 at *
 generalize decide (n = 1) = v1 at *
 cases v0 with
 | false=>
   go_enter Tryz.func88,Tryz.ntmps88
   go_wp2
   go_ret
   exact ⟨rfl,HB.out.1⟩
 | true=>
   cases v1 with
   | false=>
     go_enter Tryz.func88,Tryz.ntmps88
     go_wp2
     go_ret
     exact ⟨rfl,HB.out.1⟩
   | true=>
     have HA2:Hid (Calls Tryz.prog 128 #[.slice ka n c,I J 32] (w.alloc (.cells #[I J i.kind,.string (bs i.name),.slice ka n c,I J i.pl] 140)) fun e w'=>e = .returned (.bool (rgtF 32 i.args)) /\ Below ((w.alloc (.cells #[I J i.kind,.string (bs i.name),.slice ka n c,I J i.pl] 140))).heap.size (w.alloc (.cells #[I J i.kind,.string (bs i.name),.slice ka n c,I J i.pl] 140)) w'):=HA.out _ HB.out.1
     clear HA
     generalize rgtF 32 i.args = v2 at *
     cases v2 <;> (
      go_enter Tryz.func88,Tryz.ntmps88
      go_wp2_with fail
      refine HA2.out.mono ?_
      rintro e w2 ⟨rfl,hb2⟩
      have HB2:Hid (Below w.heap.size w w2):=HB.out.1.trans (hb2.mono HB.out.1.size)
      clear hb2
      go_wp2
      go_ret
      exact ⟨rfl,HB2.out⟩)
theorem it_10 {o:Bool} {S:Nat -> Prop} (i:It) (ka:Option Addr) (n c:Nat) (w:World) (hF:FoAt o S w i.args ka n) (hn:n <= maxLen) (hk:i.kind = 10) :
 Calls Tryz.prog 88 #[.agg #[I J i.kind,.string (bs i.name),.slice ka n c,I J i.pl]] w fun e w'=>e = .returned (.bool (decide (i.name = []) && (decide (lenF i.args = 1) && rgtF 32 i.args))) /\ Below w.heap.size w w':=by
 have hlen:=foAt_len hF
 have HA:Hid (∀ W,Below w.heap.size w W -> Calls Tryz.prog 128 #[.slice ka n c,I J 32] W fun e w'=>e = .returned (.bool (rgtF 32 i.args)) /\ Below W.heap.size W w'):=fun W hW=>rightAll_calls _ i.args ka n c 32 W o S (hF.below hW) hn (Nat.le_refl _) (Nat.lt_succ_self _)
 have hbx:Below w.heap.size w (w.alloc (.cells #[I J i.kind,.string (bs i.name),.slice ka n c,I J i.pl] 140)):=(Below.refl _ _).alloc (Nat.le_refl _) _
 have hnw:=heap_alloc_new w (.cells #[I J i.kind,.string (bs i.name),.slice ka n c,I J i.pl] 140)
 have HB:Hid (Below w.heap.size w (w.alloc (.cells #[I J i.kind,.string (bs i.name),.slice ka n c,I J i.pl] 140)) /\ ((w.alloc (.cells #[I J i.kind,.string (bs i.name),.slice ka n c,I J i.pl] 140))).heap[w.heap.size]? = some (.cells #[I J i.kind,.string (bs i.name),.slice ka n c,I J i.pl] 140 (0,0))):=⟨hbx,hnw⟩
 have k1:(i.kind == 1) = false:=by rw [beq_eq_false_iff_ne]; omega
 have k7:(i.kind == 7) = false:=by rw [beq_eq_false_iff_ne]; omega
 have k2:(i.kind == 2) = false:=by rw [beq_eq_false_iff_ne]; omega
 have k3:(i.kind == 3) = false:=by rw [beq_eq_false_iff_ne]; omega
 have k4:(i.kind == 4) = false:=by rw [beq_eq_false_iff_ne]; omega
 have k10:(i.kind == 10) = true:=by rw [beq_iff_eq]; omega
 clear hk hbx hnw hF hn
 rw [<- hlen]
 clear hlen
 have b0:((bs i.name).toList == []) = decide (i.name = []):=emptyT _
 have b1:((n:Int) == 1) = decide (n = 1):=natB n 1
 generalize decide (i.name = []) = v0 at *
 generalize decide (n = 1) = v1 at *
 cases v0 with
 | false=>
   go_enter Tryz.func88,Tryz.ntmps88
   go_wp2
   go_ret
   exact ⟨rfl,HB.out.1⟩
 | true=>
   cases v1 with
   | false=>
     go_enter Tryz.func88,Tryz.ntmps88
     go_wp2
     go_ret
     exact ⟨rfl,HB.out.1⟩
   | true=>
     have HA2:Hid (Calls Tryz.prog 128 #[.slice ka n c,I J 32] (w.alloc (.cells #[I J i.kind,.string (bs i.name),.slice ka n c,I J i.pl] 140)) fun e w'=>e = .returned (.bool (rgtF 32 i.args)) /\ Below ((w.alloc (.cells #[I J i.kind,.string (bs i.name),.slice ka n c,I J i.pl] 140))).heap.size (w.alloc (.cells #[I J i.kind,.string (bs i.name),.slice ka n c,I J i.pl] 140)) w'):=HA.out _ HB.out.1
     clear HA
     generalize rgtF 32 i.args = v2 at *
     cases v2 <;> (
      go_enter Tryz.func88,Tryz.ntmps88
      go_wp2_with fail
      refine HA2.out.mono ?_
      rintro e w2 ⟨rfl,hb2⟩
      have HB2:Hid (Below w.heap.size w w2):=HB.out.1.trans (hb2.mono HB.out.1.size)
      clear hb2
      go_wp2
      go_ret
      exact ⟨rfl,HB2.out⟩)
theorem it_5 {o:Bool} {S:Nat -> Prop} (i:It) (ka:Option Addr) (n c:Nat) (w:World) (hF:FoAt o S w i.args ka n) (hn:n <= maxLen) (hk:i.kind = 5) :
 Calls Tryz.prog 88 #[.agg #[I J i.kind,.string (bs i.name),.slice ka n c,I J i.pl]] w fun e w'=>e = .returned (.bool (decide (i.name = []) && (decide (lenF i.args = 2) && rgtF 32 i.args))) /\ Below w.heap.size w w':=by
 have hlen:=foAt_len hF
 have HA:Hid (∀ W,Below w.heap.size w W -> Calls Tryz.prog 128 #[.slice ka n c,I J 32] W fun e w'=>e = .returned (.bool (rgtF 32 i.args)) /\ Below W.heap.size W w'):=fun W hW=>rightAll_calls _ i.args ka n c 32 W o S (hF.below hW) hn (Nat.le_refl _) (Nat.lt_succ_self _)
 have hbx:Below w.heap.size w (w.alloc (.cells #[I J i.kind,.string (bs i.name),.slice ka n c,I J i.pl] 140)):=(Below.refl _ _).alloc (Nat.le_refl _) _
 have hnw:=heap_alloc_new w (.cells #[I J i.kind,.string (bs i.name),.slice ka n c,I J i.pl] 140)
 have HB:Hid (Below w.heap.size w (w.alloc (.cells #[I J i.kind,.string (bs i.name),.slice ka n c,I J i.pl] 140)) /\ ((w.alloc (.cells #[I J i.kind,.string (bs i.name),.slice ka n c,I J i.pl] 140))).heap[w.heap.size]? = some (.cells #[I J i.kind,.string (bs i.name),.slice ka n c,I J i.pl] 140 (0,0))):=⟨hbx,hnw⟩
 have k1:(i.kind == 1) = false:=by rw [beq_eq_false_iff_ne]; omega
 have k7:(i.kind == 7) = false:=by rw [beq_eq_false_iff_ne]; omega
 have k2:(i.kind == 2) = false:=by rw [beq_eq_false_iff_ne]; omega
 have k3:(i.kind == 3) = false:=by rw [beq_eq_false_iff_ne]; omega
 have k4:(i.kind == 4) = false:=by rw [beq_eq_false_iff_ne]; omega
 have k10:(i.kind == 10) = false:=by rw [beq_eq_false_iff_ne]; omega
 have k5:(i.kind == 5) = true:=by rw [beq_iff_eq]; omega
 clear hk hbx hnw hF hn
 rw [<- hlen]
 clear hlen
 have b0:((bs i.name).toList == []) = decide (i.name = []):=emptyT _
 have b1:((n:Int) == 2) = decide (n = 2):=natB n 2
 generalize decide (i.name = []) = v0 at *
 generalize decide (n = 2) = v1 at *
 cases v0 with
 | false=>
   go_enter Tryz.func88,Tryz.ntmps88
   go_wp2
   go_ret
   exact ⟨rfl,HB.out.1⟩
 | true=>
   cases v1 with
   | false=>
     go_enter Tryz.func88,Tryz.ntmps88
     go_wp2
     go_ret
     exact ⟨rfl,HB.out.1⟩
   | true=>
     have HA2:Hid (Calls Tryz.prog 128 #[.slice ka n c,I J 32] (w.alloc (.cells #[I J i.kind,.string (bs i.name),.slice ka n c,I J i.pl] 140)) fun e w'=>e = .returned (.bool (rgtF 32 i.args)) /\ Below ((w.alloc (.cells #[I J i.kind,.string (bs i.name),.slice ka n c,I J i.pl] 140))).heap.size (w.alloc (.cells #[I J i.kind,.string (bs i.name),.slice ka n c,I J i.pl] 140)) w'):=HA.out _ HB.out.1
     clear HA
     generalize rgtF 32 i.args = v2 at *
     cases v2 <;> (
      go_enter Tryz.func88,Tryz.ntmps88
      go_wp2_with fail
      refine HA2.out.mono ?_
      rintro e w2 ⟨rfl,hb2⟩
      have HB2:Hid (Below w.heap.size w w2):=HB.out.1.trans (hb2.mono HB.out.1.size)
      clear hb2
      go_wp2
      go_ret
      exact ⟨rfl,HB2.out⟩)
theorem it_6 {o:Bool} {S:Nat -> Prop} (i:It) (ka:Option Addr) (n c:Nat) (w:World) (hF:FoAt o S w i.args ka n) (hn:n <= maxLen) (hk:i.kind = 6) :
 Calls Tryz.prog 88 #[.agg #[I J i.kind,.string (bs i.name),.slice ka n c,I J i.pl]] w fun e w'=>e = .returned (.bool (decide (i.name = []) && (decide (lenF i.args = 2) && rgtF 32 i.args))) /\ Below w.heap.size w w':=by
 have hlen:=foAt_len hF
 have HA:Hid (∀ W,Below w.heap.size w W -> Calls Tryz.prog 128 #[.slice ka n c,I J 32] W fun e w'=>e = .returned (.bool (rgtF 32 i.args)) /\ Below W.heap.size W w'):=fun W hW=>rightAll_calls _ i.args ka n c 32 W o S (hF.below hW) hn (Nat.le_refl _) (Nat.lt_succ_self _)
 have hbx:Below w.heap.size w (w.alloc (.cells #[I J i.kind,.string (bs i.name),.slice ka n c,I J i.pl] 140)):=(Below.refl _ _).alloc (Nat.le_refl _) _
 have hnw:=heap_alloc_new w (.cells #[I J i.kind,.string (bs i.name),.slice ka n c,I J i.pl] 140)
 have HB:Hid (Below w.heap.size w (w.alloc (.cells #[I J i.kind,.string (bs i.name),.slice ka n c,I J i.pl] 140)) /\ ((w.alloc (.cells #[I J i.kind,.string (bs i.name),.slice ka n c,I J i.pl] 140))).heap[w.heap.size]? = some (.cells #[I J i.kind,.string (bs i.name),.slice ka n c,I J i.pl] 140 (0,0))):=⟨hbx,hnw⟩
 have k1:(i.kind == 1) = false:=by rw [beq_eq_false_iff_ne]; omega
 have k7:(i.kind == 7) = false:=by rw [beq_eq_false_iff_ne]; omega
 have k2:(i.kind == 2) = false:=by rw [beq_eq_false_iff_ne]; omega
 have k3:(i.kind == 3) = false:=by rw [beq_eq_false_iff_ne]; omega
 have k4:(i.kind == 4) = false:=by rw [beq_eq_false_iff_ne]; omega
 have k10:(i.kind == 10) = false:=by rw [beq_eq_false_iff_ne]; omega
 have k5:(i.kind == 5) = false:=by rw [beq_eq_false_iff_ne]; omega
 have k6:(i.kind == 6) = true:=by rw [beq_iff_eq]; omega
 clear hk hbx hnw hF hn
 rw [<- hlen]
 clear hlen
 have b0:((bs i.name).toList == []) = decide (i.name = []):=emptyT _
 have b1:((n:Int) == 2) = decide (n = 2):=natB n 2
 generalize decide (i.name = []) = v0 at *
 generalize decide (n = 2) = v1 at *
 cases v0 with
 | false=>
   go_enter Tryz.func88,Tryz.ntmps88
   go_wp2
   go_ret
   exact ⟨rfl,HB.out.1⟩
 | true=>
   cases v1 with
   | false=>
     go_enter Tryz.func88,Tryz.ntmps88
     go_wp2
     go_ret
     exact ⟨rfl,HB.out.1⟩
   | true=>
     have HA2:Hid (Calls Tryz.prog 128 #[.slice ka n c,I J 32] (w.alloc (.cells #[I J i.kind,.string (bs i.name),.slice ka n c,I J i.pl] 140)) fun e w'=>e = .returned (.bool (rgtF 32 i.args)) /\ Below ((w.alloc (.cells #[I J i.kind,.string (bs i.name),.slice ka n c,I J i.pl] 140))).heap.size (w.alloc (.cells #[I J i.kind,.string (bs i.name),.slice ka n c,I J i.pl] 140)) w'):=HA.out _ HB.out.1
     clear HA
     generalize rgtF 32 i.args = v2 at *
     cases v2 <;> (
      go_enter Tryz.func88,Tryz.ntmps88
      go_wp2_with fail
      refine HA2.out.mono ?_
      rintro e w2 ⟨rfl,hb2⟩
      have HB2:Hid (Below w.heap.size w w2):=HB.out.1.trans (hb2.mono HB.out.1.size)
      clear hb2
      go_wp2
      go_ret
      exact ⟨rfl,HB2.out⟩)
theorem it_8 {o:Bool} {S:Nat -> Prop} (i:It) (ka:Option Addr) (n c:Nat) (w:World) (hF:FoAt o S w i.args ka n) (hn:n <= maxLen) (hk:i.kind = 8) :
 Calls Tryz.prog 88 #[.agg #[I J i.kind,.string (bs i.name),.slice ka n c,I J i.pl]] w fun e w'=>e = .returned (.bool (decide (i.name = []) && (decide (lenF i.args = 2) && rgtF 32 i.args))) /\ Below w.heap.size w w':=by
 have hlen:=foAt_len hF
 have HA:Hid (∀ W,Below w.heap.size w W -> Calls Tryz.prog 128 #[.slice ka n c,I J 32] W fun e w'=>e = .returned (.bool (rgtF 32 i.args)) /\ Below W.heap.size W w'):=fun W hW=>rightAll_calls _ i.args ka n c 32 W o S (hF.below hW) hn (Nat.le_refl _) (Nat.lt_succ_self _)
 have hbx:Below w.heap.size w (w.alloc (.cells #[I J i.kind,.string (bs i.name),.slice ka n c,I J i.pl] 140)):=(Below.refl _ _).alloc (Nat.le_refl _) _
 have hnw:=heap_alloc_new w (.cells #[I J i.kind,.string (bs i.name),.slice ka n c,I J i.pl] 140)
 have HB:Hid (Below w.heap.size w (w.alloc (.cells #[I J i.kind,.string (bs i.name),.slice ka n c,I J i.pl] 140)) /\ ((w.alloc (.cells #[I J i.kind,.string (bs i.name),.slice ka n c,I J i.pl] 140))).heap[w.heap.size]? = some (.cells #[I J i.kind,.string (bs i.name),.slice ka n c,I J i.pl] 140 (0,0))):=⟨hbx,hnw⟩
 have k1:(i.kind == 1) = false:=by rw [beq_eq_false_iff_ne]; omega
 have k7:(i.kind == 7) = false:=by rw [beq_eq_false_iff_ne]; omega
 have k2:(i.kind == 2) = false:=by rw [beq_eq_false_iff_ne]; omega
 have k3:(i.kind == 3) = false:=by rw [beq_eq_false_iff_ne]; omega
 have k4:(i.kind == 4) = false:=by rw [beq_eq_false_iff_ne]; omega
 have k10:(i.kind == 10) = false:=by rw [beq_eq_false_iff_ne]; omega
 have k5:(i.kind == 5) = false:=by rw [beq_eq_false_iff_ne]; omega
 have k6:(i.kind == 6) = false:=by rw [beq_eq_false_iff_ne]; omega
 have k8:(i.kind == 8) = true:=by rw [beq_iff_eq]; omega
 clear hk hbx hnw hF hn
 rw [<- hlen]
 clear hlen
 have b0:((bs i.name).toList == []) = decide (i.name = []):=emptyT _
 have b1:((n:Int) == 2) = decide (n = 2):=natB n 2
 generalize decide (i.name = []) = v0 at *
 generalize decide (n = 2) = v1 at *
 cases v0 with
 | false=>
   go_enter Tryz.func88,Tryz.ntmps88
   go_wp2
   go_ret
   exact ⟨rfl,HB.out.1⟩
 | true=>
   cases v1 with
   | false=>
     go_enter Tryz.func88,Tryz.ntmps88
     go_wp2
     go_ret
     exact ⟨rfl,HB.out.1⟩
   | true=>
     have HA2:Hid (Calls Tryz.prog 128 #[.slice ka n c,I J 32] (w.alloc (.cells #[I J i.kind,.string (bs i.name),.slice ka n c,I J i.pl] 140)) fun e w'=>e = .returned (.bool (rgtF 32 i.args)) /\ Below ((w.alloc (.cells #[I J i.kind,.string (bs i.name),.slice ka n c,I J i.pl] 140))).heap.size (w.alloc (.cells #[I J i.kind,.string (bs i.name),.slice ka n c,I J i.pl] 140)) w'):=HA.out _ HB.out.1
     clear HA
     generalize rgtF 32 i.args = v2 at *
     cases v2 <;> (
      go_enter Tryz.func88,Tryz.ntmps88
      go_wp2_with fail
      refine HA2.out.mono ?_
      rintro e w2 ⟨rfl,hb2⟩
      have HB2:Hid (Below w.heap.size w w2):=HB.out.1.trans (hb2.mono HB.out.1.size)
      clear hb2
      go_wp2
      go_ret
      exact ⟨rfl,HB2.out⟩)
theorem it_9 {o:Bool} {S:Nat -> Prop} (i:It) (ka:Option Addr) (n c:Nat) (w:World) (hF:FoAt o S w i.args ka n) (hn:n <= maxLen) (hk:i.kind = 9) :
 Calls Tryz.prog 88 #[.agg #[I J i.kind,.string (bs i.name),.slice ka n c,I J i.pl]] w fun e w'=>e = .returned (.bool (decide (i.name = []) && (decide (lenF i.args = 2) && rgtF 32 i.args))) /\ Below w.heap.size w w':=by
 have hlen:=foAt_len hF
 have HA:Hid (∀ W,Below w.heap.size w W -> Calls Tryz.prog 128 #[.slice ka n c,I J 32] W fun e w'=>e = .returned (.bool (rgtF 32 i.args)) /\ Below W.heap.size W w'):=fun W hW=>rightAll_calls _ i.args ka n c 32 W o S (hF.below hW) hn (Nat.le_refl _) (Nat.lt_succ_self _)
 have hbx:Below w.heap.size w (w.alloc (.cells #[I J i.kind,.string (bs i.name),.slice ka n c,I J i.pl] 140)):=(Below.refl _ _).alloc (Nat.le_refl _) _
 have hnw:=heap_alloc_new w (.cells #[I J i.kind,.string (bs i.name),.slice ka n c,I J i.pl] 140)
 have HB:Hid (Below w.heap.size w (w.alloc (.cells #[I J i.kind,.string (bs i.name),.slice ka n c,I J i.pl] 140)) /\ ((w.alloc (.cells #[I J i.kind,.string (bs i.name),.slice ka n c,I J i.pl] 140))).heap[w.heap.size]? = some (.cells #[I J i.kind,.string (bs i.name),.slice ka n c,I J i.pl] 140 (0,0))):=⟨hbx,hnw⟩
 have k1:(i.kind == 1) = false:=by rw [beq_eq_false_iff_ne]; omega
 have k7:(i.kind == 7) = false:=by rw [beq_eq_false_iff_ne]; omega
 have k2:(i.kind == 2) = false:=by rw [beq_eq_false_iff_ne]; omega
 have k3:(i.kind == 3) = false:=by rw [beq_eq_false_iff_ne]; omega
 have k4:(i.kind == 4) = false:=by rw [beq_eq_false_iff_ne]; omega
 have k10:(i.kind == 10) = false:=by rw [beq_eq_false_iff_ne]; omega
 have k5:(i.kind == 5) = false:=by rw [beq_eq_false_iff_ne]; omega
 have k6:(i.kind == 6) = false:=by rw [beq_eq_false_iff_ne]; omega
 have k8:(i.kind == 8) = false:=by rw [beq_eq_false_iff_ne]; omega
 have k9:(i.kind == 9) = true:=by rw [beq_iff_eq]; omega
 clear hk hbx hnw hF hn
 rw [<- hlen]
 clear hlen
 have b0:((bs i.name).toList == []) = decide (i.name = []):=emptyT _
 have b1:((n:Int) == 2) = decide (n = 2):=natB n 2
 generalize decide (i.name = []) = v0 at *
 generalize decide (n = 2) = v1 at *
 cases v0 with
 | false=>
   go_enter Tryz.func88,Tryz.ntmps88
   go_wp2
   go_ret
   exact ⟨rfl,HB.out.1⟩
 | true=>
   cases v1 with
   | false=>
     go_enter Tryz.func88,Tryz.ntmps88
     go_wp2
     go_ret
     exact ⟨rfl,HB.out.1⟩
   | true=>
     have HA2:Hid (Calls Tryz.prog 128 #[.slice ka n c,I J 32] (w.alloc (.cells #[I J i.kind,.string (bs i.name),.slice ka n c,I J i.pl] 140)) fun e w'=>e = .returned (.bool (rgtF 32 i.args)) /\ Below ((w.alloc (.cells #[I J i.kind,.string (bs i.name),.slice ka n c,I J i.pl] 140))).heap.size (w.alloc (.cells #[I J i.kind,.string (bs i.name),.slice ka n c,I J i.pl] 140)) w'):=HA.out _ HB.out.1
     clear HA
     generalize rgtF 32 i.args = v2 at *
     cases v2 <;> (
      go_enter Tryz.func88,Tryz.ntmps88
      go_wp2_with fail
      refine HA2.out.mono ?_
      rintro e w2 ⟨rfl,hb2⟩
      have HB2:Hid (Below w.heap.size w w2):=HB.out.1.trans (hb2.mono HB.out.1.size)
      clear hb2
      go_wp2
      go_ret
      exact ⟨rfl,HB2.out⟩)
theorem it_none (i:It) (ka:Option Addr) (n c:Nat) (w:World) (hk:¬ (1 <= i.kind /\ i.kind <= 10)) :
 Calls Tryz.prog 88 #[.agg #[I J i.kind,.string (bs i.name),.slice ka n c,I J i.pl]] w fun e w'=>e = .returned (.bool false) /\ Below w.heap.size w w':=by
 have k1:(i.kind == 1) = false:=by rw [beq_eq_false_iff_ne]; omega
 have k7:(i.kind == 7) = false:=by rw [beq_eq_false_iff_ne]; omega
 have k2:(i.kind == 2) = false:=by rw [beq_eq_false_iff_ne]; omega
 have k3:(i.kind == 3) = false:=by rw [beq_eq_false_iff_ne]; omega
 have k4:(i.kind == 4) = false:=by rw [beq_eq_false_iff_ne]; omega
 have k10:(i.kind == 10) = false:=by rw [beq_eq_false_iff_ne]; omega
 have k5:(i.kind == 5) = false:=by rw [beq_eq_false_iff_ne]; omega
 have k6:(i.kind == 6) = false:=by rw [beq_eq_false_iff_ne]; omega
 have k8:(i.kind == 8) = false:=by rw [beq_eq_false_iff_ne]; omega
 have k9:(i.kind == 9) = false:=by rw [beq_eq_false_iff_ne]; omega
 have HB:Hid (Below w.heap.size w (w.alloc (.cells #[I J i.kind,.string (bs i.name),.slice ka n c,I J i.pl] 140))):=(Below.refl _ _).alloc (Nat.le_refl _) _
 clear hk
 go_enter Tryz.func88,Tryz.ntmps88
 go_wp2
 go_ret
 exact ⟨rfl,HB.out⟩
theorem rightItem_calls {o:Bool} {S:Nat -> Prop} (i:It) (ka:Option Addr) (n c:Nat) (w:World) (hF:FoAt o S w i.args ka n) (hn:n <= maxLen) :
 Calls Tryz.prog 88 #[.agg #[I J i.kind,.string (bs i.name),.slice ka n c,I J i.pl]] w fun e w'=>e = .returned (.bool (itRight i)) /\ Below w.heap.size w w':=by
 unfold itRight
 by_cases h1:i.kind = 1
 ·rw [if_pos h1]; exact it_1 i ka n c w hF hn h1
 ·rw [if_neg h1]
  by_cases h7:i.kind = 7
  ·rw [if_pos h7]; exact it_7 i ka n c w (foAt_len hF) h7
  ·rw [if_neg h7]
   by_cases h2:i.kind = 2 \/ i.kind = 3 \/ i.kind = 4 \/ i.kind = 10
   ·rw [if_pos h2]
    rcases h2 with h2 | h2 | h2 | h2
    ·exact it_2 i ka n c w hF hn h2
    ·exact it_3 i ka n c w hF hn h2
    ·exact it_4 i ka n c w hF hn h2
    ·exact it_10 i ka n c w hF hn h2
   ·rw [if_neg h2]
    by_cases h5:i.kind = 5 \/ i.kind = 6 \/ i.kind = 8 \/ i.kind = 9
    ·rw [if_pos h5]
     rcases h5 with h5 | h5 | h5 | h5
     ·exact it_5 i ka n c w hF hn h5
     ·exact it_6 i ka n c w hF hn h5
     ·exact it_8 i ka n c w hF hn h5
     ·exact it_9 i ka n c w hF hn h5
    ·rw [if_neg h5]
     exact it_none i ka n c w (by omega)
theorem right_calls {o:Bool} {S:Nat -> Prop} (L:List It) (ao:Option Addr) (n c:Nat) (w:World) (hF:ItsAt o S w L ao n) (hn:n <= maxLen) :
 Calls Tryz.prog 58 #[.agg #[.slice ao n c]] w fun e' w'=>e' = .returned (.bool (treeRight L)) /\ Below w.heap.size w w':=by
 have hn2:=hn
 unfold maxLen at hn2
 have hlen:=itsAt_len hF
 have hbx:Below w.heap.size w (w.alloc (.cells #[.slice ao n c] 85)):=(Below.refl _ _).alloc (Nat.le_refl _) _
 have HB:Hid (Below w.heap.size w (w.alloc (.cells #[.slice ao n c] 85))):=hbx
 by_cases h100:100 < n
 ·have q:decide ((100:Int) < (n:Int)) = true:=by simp; omega
  have HX:Hid (treeRight L = false):=by show treeRight L = false; unfold treeRight; rw [<- hlen]; simp; omega
  clear hF hbx hlen
  go_enter Tryz.func58,Tryz.ntmps58
  go_wp2
  go_ret
  exact ⟨ret_bool HX.out.symm,HB.out⟩
 ·have q:decide ((100:Int) < (n:Int)) = false:=by simp; omega
  have HX:Hid (treeRight L = L.all itRight):=by
   show treeRight L = _
   unfold treeRight
   rw [<- hlen,show decide (n <= 100) = true by simp; omega,Bool.true_and]
  obtain ⟨g,off,hka,hF'⟩:=itsAt_addr hF
  rw [HX.out]
  generalize hD:L.all itRight = D at *
  have H0:Hid (ItsAt o S (w.alloc (.cells #[.slice ao n c] 85)) L (some ⟨g,off + 0 * 4,none⟩) (n - 0) /\ L.all itRight = D /\ Below w.heap.size w (w.alloc (.cells #[.slice ao n c] 85))):=⟨hF'.below hbx,hD,hbx⟩
  clear hF hF' hD hbx HX HB hlen
  go_enter Tryz.func58,Tryz.ntmps58
  go_wp2_with fail
  go_loopg [12] n (fun k iv wr=>∃ (L':List It) (i:Nat),iv = I J (i:Int) /\ i + k = n /\ Hid (ItsAt o S wr L' (some ⟨g,off + i * 4,none⟩) (n - i) /\ L'.all itRight = D /\ Below w.heap.size w wr))
  case atStart=>exact ⟨L,0,rfl,by omega,H0.out⟩
  case round=>
   clear H0
   obtain ⟨L',i,rfl,hik,HT⟩:=hrel
   by_cases hi:i < n
   ·obtain ⟨h1,r1,ka1,kc1,kk1,rfl,-,hok1,hkc1,⟨c0,c1,c2,c3⟩,hk1,hr1⟩:=itsAt_head HT.out.1 hi
    have hka2:=hka (by omega)
    subst hka2
    have hbx:∀ o',Below wr.heap.size wr (wr.alloc o'):=fun o'=>(Below.refl _ _).alloc (Nat.le_refl _) o'
    have HR:Hid (ItsAt o S wr r1 (some ⟨g,off + (i + 1) * 4,none⟩) (n - (i + 1)) /\ (itRight h1 && r1.all itRight) = D /\ Below w.heap.size w wr):=⟨hr1,by have:=HT.out.2.1; rw [List.all_cons] at this; exact this,HT.out.2.2⟩
    have HHd:Hid (∀ o',Calls Tryz.prog 88 #[.agg #[I J h1.kind,.string (bs h1.name),.slice ka1 kc1 kk1,I J h1.pl]] (wr.alloc o') fun e w'=>e = .returned (.bool (itRight h1)) /\ Below (wr.alloc o').heap.size (wr.alloc o') w'):=fun o'=>rightItem_calls h1 ka1 kc1 kk1 _ (hk1.below (hbx o')) hkc1
    clear HT hk1 hr1 hok1 hkc1 hbx
    cases hh:itRight h1 with
    | false=>
      rw [hh] at HHd HR
      go_wp2_with fail
      refine (HHd.out _).mono ?_
      rintro e' w3 ⟨rfl,hb3⟩
      have HX:Hid (D = false /\ Below w.heap.size w w3):=⟨by rw [<- HR.out.2.1]; simp,HR.out.2.2.trans ((below_box' hb3).mono HR.out.2.2.size)⟩
      clear hb3 HR HHd
      go_wp2
      go_ret
      exact ⟨ret_bool HX.out.1.symm,HX.out.2⟩
    | true=>
      rw [hh] at HHd HR
      go_wp2_with fail
      refine (HHd.out _).mono ?_
      rintro e' w3 ⟨rfl,hb3⟩
      have HX:Hid (ItsAt o S w3 r1 (some ⟨g,off + (i + 1) * 4,none⟩) (n - (i + 1)) /\ r1.all itRight = D /\ Below w.heap.size w w3):=by
       obtain ⟨a1,a2,a3⟩:=HR.out
       have hb4:=below_box' hb3
       exact ⟨a1.below hb4,by simpa using a2,a3.trans (hb4.mono a3.size)⟩
      clear hb3 HR HHd
      go_wp2_with fail
      go_roundg (gk - 1)
      case measure=>omega
      case rel=>exact ⟨r1,i + 1,by go_num,by omega,HX.out⟩
   ·have HX:Hid (D = true /\ Below w.heap.size w wr):=by
     obtain ⟨a1,a4,a5⟩:=HT.out
     rw [show n - i = 0 by omega] at a1
     rw [itsAt_end a1] at a4
     exact ⟨a4.symm,a5⟩
    clear HT
    go_wp2
    go_ret
    exact ⟨ret_bool HX.out.1.symm,HX.out.2⟩
end Go.Proofs.YtbbbnopganhebabGreat
