/-
  The work in memory: a row of numbers for each state, and which of them have one; value, keep. And what follows.
-/
import Derived.Deep.OwnRows
import Derived.Deep.RegionHeld3
import Derived.Test.YtbbbnopganhebabGreatG33
namespace Go.Proofs.YtbbbnopganhebabGreat
open Go.RowKit Go.Deep Go.Maps
open Go.Value renaming int->I
open Go.IntKind renaming i64->J
set_option maxRecDepth 20000
set_option maxHeartbeats 1000000
/-- The numbers of a row's cells. -/
abbrev rowI (w:World) (b:Nat) (n:Nat) (f:Nat -> Int):Prop:=w.rowIs b 3 n fun c=>I J (f c)
abbrev rowU (w:World) (b:Nat) (n:Nat) (f:Nat -> Nat):Prop:=w.rowIs b 73 n fun c=>.int .u16 (f c:Int)
theorem putI_calls (C g n i j:Nat) (v:Int) (f:Nat -> Int) (w:World) (hg:rowI w g n f) (hlt:i * C + j < n) (hsm:n <= 1048576) :
 Calls Tryz.prog 111 #[.agg #[I J (C:Int),.slice (some ⟨g,0,none⟩) n n],I J (i:Int),I J (j:Int),I J v] w fun e w'=>e = .returned (.tuple #[]) /\ ∃ o,w' = (w.setCell ⟨g,i * C + j,none⟩ (I J v)).alloc o:=by
 have m0:(i:Int) * (C:Int) = ((i * C:Nat):Int):=by simp
 have m1:0 <= (i:Int) * (C:Int):=by rw [m0]; omega
 have m2:(i:Int) * (C:Int) + j < n:=by rw [m0]; omega
 have hc:∀ o,(w.alloc o).cell? ⟨g,i * C + j,none⟩ = some (I J (f (i * C + j))):=fun o=>(hg.alloc o).cell hlt
 have hf:∀ o,(w.alloc o).frozen? ⟨g,i * C + j,none⟩ = false:=fun o=>(hg.alloc o).frozen _
 have hb:=hg.lt
 clear m0 hlt hg
 go_enter Tryz.func111,Tryz.ntmps111
 go_wp2
 go_end0
 exact ⟨rfl,_,rfl⟩
theorem putU_calls (C g n i j:Nat) (v:Nat) (f:Nat -> Nat) (w:World) (hg:rowU w g n f) (hlt:i * C + j < n) (hsm:n <= 1048576) :
 Calls Tryz.prog 112 #[.agg #[I J (C:Int),.slice (some ⟨g,0,none⟩) n n],I J (i:Int),I J (j:Int),.int .u16 (v:Int)] w fun e w'=>e = .returned (.tuple #[]) /\ ∃ o,w' = (w.setCell ⟨g,i * C + j,none⟩ (.int .u16 (v:Int))).alloc o:=by
 have m0:(i:Int) * (C:Int) = ((i * C:Nat):Int):=by simp
 have m1:0 <= (i:Int) * (C:Int):=by rw [m0]; omega
 have m2:(i:Int) * (C:Int) + j < n:=by rw [m0]; omega
 have hc:∀ o,(w.alloc o).cell? ⟨g,i * C + j,none⟩ = some (.int .u16 (f (i * C + j):Int)):=fun o=>(hg.alloc o).cell hlt
 have hf:∀ o,(w.alloc o).frozen? ⟨g,i * C + j,none⟩ = false:=fun o=>(hg.alloc o).frozen _
 have hb:=hg.lt
 clear m0 hlt hg
 go_enter Tryz.func112,Tryz.ntmps112
 go_wp2
 go_end0
 exact ⟨rfl,_,rfl⟩
theorem atI_calls (C g n i j:Nat) (f:Nat -> Int) (w:World) (hg:rowI w g n f) (hlt:i * C + j < n) (hsm:n <= 1048576) :
 Calls Tryz.prog 46 #[.agg #[I J (C:Int),.slice (some ⟨g,0,none⟩) n n],I J (i:Int),I J (j:Int)] w fun e w'=>e = .returned (I J (f (i * C + j))) /\ ∃ o,w' = w.alloc o:=by
 have m0:(i:Int) * (C:Int) = ((i * C:Nat):Int):=by simp
 have m1:0 <= (i:Int) * (C:Int):=by rw [m0]; omega
 have m2:(i:Int) * (C:Int) + j < n:=by rw [m0]; omega
 have hc:∀ o,(w.alloc o).cell? ⟨g,i * C + j,none⟩ = some (I J (f (i * C + j))):=fun o=>(hg.alloc o).cell hlt
 have hb:=hg.lt
 clear m0 hlt hg
 generalize f (i * C + j) = z at *
 go_enter Tryz.func46,Tryz.ntmps46
 go_wp2
 go_ret
 exact ⟨rfl,_,rfl⟩
theorem atU_calls (C g n i j:Nat) (f:Nat -> Nat) (w:World) (hg:rowU w g n f) (hlt:i * C + j < n) (hsm:n <= 1048576) :
 Calls Tryz.prog 44 #[.agg #[I J (C:Int),.slice (some ⟨g,0,none⟩) n n],I J (i:Int),I J (j:Int)] w fun e w'=>e = .returned (.int .u16 (f (i * C + j):Int)) /\ ∃ o,w' = w.alloc o:=by
 have m0:(i:Int) * (C:Int) = ((i * C:Nat):Int):=by simp
 have m1:0 <= (i:Int) * (C:Int):=by rw [m0]; omega
 have m2:(i:Int) * (C:Int) + j < n:=by rw [m0]; omega
 have hc:∀ o,(w.alloc o).cell? ⟨g,i * C + j,none⟩ = some (.int .u16 (f (i * C + j):Int)):=fun o=>(hg.alloc o).cell hlt
 have hb:=hg.lt
 clear m0 hlt hg
 generalize f (i * C + j) = z at *
 go_enter Tryz.func44,Tryz.ntmps44
 go_wp2
 go_ret
 exact ⟨rfl,_,rfl⟩
/-- Where the work's blocks lie. -/
structure Wp where
 b:Nat
 nb:Nat
 nc:Nat
 hb:Nat
 gs:Nat -> Nat
def nC (F:Fe):Nat:=F.ys.length + 1
def nN (F:Fe):Nat:=(F.xs.length + 1) * (F.ys.length + 1)
def wkCells (F:Fe) (A:Fx) (p:Wp):Array Value:=
 #[I J F.r.letters,.slice A.d.a A.d.n A.d.c,.slice A.s.a A.s.n A.s.c,I J F.r.beg,I J F.r.fin,I J F.r.front,I J F.r.back,.bool F.r.banded,I J F.r.lo,I J F.r.hi,.slice A.t.a A.t.n A.t.c,.slice A.v.a A.v.n A.v.c,.slice A.x.a A.x.n A.x.c,.slice A.y.a A.y.n A.y.c,
   .slice (some ⟨p.nb,0,none⟩) (F.r.states.length + 1) p.nc,I J (nC F:Int),.slice (some ⟨p.hb,0,none⟩) (nN F) (nN F)]
/-- The rows' numbers say what a table has. -/
def Says (F:Fe) (T:Nat -> Nat -> Int) (H:Nat -> Nat) (G:Tb):Prop:=∀ i j k:Nat,i <= F.xs.length -> j <= F.ys.length -> k <= F.r.states.length ->
 hasE (H (i * nC F + j)) ((k:Int) - 1) = (G i j ((k:Int) - 1)).isSome /\ ∀ v,G i j ((k:Int) - 1) = some v -> T k (i * nC F + j) = v
structure Wk (w0:World) (F:Fe) (A:Fx) (p:Wp) (w:World) (G:Tb):Prop where
 low:Below w0.heap.size w0 w
 mem:FcM w0 F A
 ok:FeOk F
 box:w.heap[p.b]? = some (.cells (wkCells F A p) 112 (0,0))
 nums:∀ k,k <= F.r.states.length -> w.cell? ⟨p.nb,k * 2,none⟩ = some (I J (nC F:Int)) /\ w.cell? ⟨p.nb,k * 2 + 1,none⟩ = some (.slice (some ⟨p.gs k,0,none⟩) (nN F) (nN F))
 data:∃ T H,(∀ k,k <= F.r.states.length -> rowI w (p.gs k) (nN F) (T k)) /\ rowU w p.hb (nN F) H /\ (∀ c,H c < 1024) /\ Says F T H G
 neg:∀ i j s,i < 0 \/ j < 0 -> G i j s = none
 new:∀ k,k <= F.r.states.length -> w0.heap.size <= p.gs k /\ p.gs k ≠ p.b /\ p.gs k ≠ p.nb /\ p.gs k ≠ p.hb
 newh:w0.heap.size <= p.hb /\ p.hb ≠ p.b /\ p.hb ≠ p.nb
 two:∀ k l,k <= F.r.states.length -> l <= F.r.states.length -> k ≠ l -> p.gs k ≠ p.gs l
theorem cell_lt {X Y i j:Nat} (hi:i <= X) (hj:j <= Y):i * (Y + 1) + j < (X + 1) * (Y + 1):=by
 have h1:i * (Y + 1) <= X * (Y + 1):=Nat.mul_le_mul_right _ hi
 have h2:(X + 1) * (Y + 1) = X * (Y + 1) + (Y + 1):=by rw [Nat.add_mul,Nat.one_mul]
 omega
theorem cell_one {C i j i' j':Nat} (hj:j < C) (hj':j' < C) (h:i * C + j = i' * C + j'):i = i' /\ j = j':=by
 have e1:(i * C + j) / C = i:=by rw [Nat.mul_comm,Nat.mul_add_div (by omega),Nat.div_eq_of_lt hj,Nat.add_zero]
 have e2:(i' * C + j') / C = i':=by rw [Nat.mul_comm,Nat.mul_add_div (by omega),Nat.div_eq_of_lt hj',Nat.add_zero]
 have:i = i':=by rw [<- e1,<- e2,h]
 subst this
 exact ⟨rfl,by omega⟩
section
variable {w0 w w':World} {F:Fe} {A:Fx} {p:Wp} {G:Tb}
theorem Wk.below (h:Wk w0 F A p w G) (hb:Below w.heap.size w w'):Wk w0 F A p w' G:=by
 obtain ⟨T,H,h1,h2,h3,h4⟩:=h.data
 exact ⟨h.low.trans (hb.mono h.low.size),h.mem,h.ok,by rw [hb.block _ (lt_block h.box)]; exact h.box,fun k hk=>⟨keepc hb (h.nums k hk).1,keepc hb (h.nums k hk).2⟩,
  ⟨T,H,fun k hk=>(h1 k hk).of_block (hb.block _ (h1 k hk).lt),h2.of_block (hb.block _ h2.lt),h3,h4⟩,h.neg,h.new,h.newh,h.two⟩
theorem Wk.fc (h:Wk w0 F A p w G):FcAt w p.b F A:=
 ⟨h.mem.below h.low,blk h.box rfl,blk h.box rfl,blk h.box rfl,blk h.box rfl,blk h.box rfl,blk h.box rfl,blk h.box rfl,blk h.box rfl,blk h.box rfl,blk h.box rfl,blk h.box rfl,blk h.box rfl,blk h.box rfl⟩
theorem Wk.c14 (h:Wk w0 F A p w G):w.cell? ⟨p.b,14,none⟩ = some (.slice (some ⟨p.nb,0,none⟩) (F.r.states.length + 1) p.nc):=blk h.box rfl
theorem Wk.c15 (h:Wk w0 F A p w G):w.cell? ⟨p.b,15,none⟩ = some (I J (nC F:Int)):=blk h.box rfl
theorem Wk.c16 (h:Wk w0 F A p w G):w.cell? ⟨p.b,16,none⟩ = some (.slice (some ⟨p.hb,0,none⟩) (nN F) (nN F)):=blk h.box rfl
theorem Wk.small (h:Wk w0 F A p w G):nN F <= 1048576:=h.ok.cells
end
/-- (*work).value -/
theorem value_calls {w0:World} {F:Fe} {A:Fx} {p:Wp} {G:Tb} (s i j:Int) (w:World) (h:Wk w0 F A p w G) (hs:-1 <= s) (hs2:s < F.r.states.length) (hi:i <= F.xs.length) (hj:j <= F.ys.length) :
 Calls Tryz.prog 20 #[.pointer (some ⟨p.b,0,none⟩),I J s,I J i,I J j] w fun e w'=>e = .returned (.tuple #[I J ((G i j s).getD 0),.bool (G i j s).isSome]) /\ Below w.heap.size w w':=by
 by_cases h1:i < 0
 ·have k1:decide (i < 0) = true:=by simpa using h1
  have HE:Hid (G i j s = none):=h.neg i j s (.inl h1)
  clear h
  go_enter Tryz.func20,Tryz.ntmps20
  go_wp2
  go_ret2
  rw [HE.out]
  exact ⟨rfl,Below.refl _ _⟩
 ·have k1:decide (i < 0) = false:=by simpa using h1
  by_cases h2:j < 0
  ·have k2:decide (j < 0) = true:=by simpa using h2
   have HE:Hid (G i j s = none):=h.neg i j s (.inr h2)
   clear h
   go_enter Tryz.func20,Tryz.ntmps20
   go_wp2
   go_ret2
   rw [HE.out]
   exact ⟨rfl,Below.refl _ _⟩
  ·have k2:decide (j < 0) = false:=by simpa using h2
   obtain ⟨a,rfl⟩:=Int.eq_ofNat_of_zero_le (show 0 <= i by omega)
   obtain ⟨b,rfl⟩:=Int.eq_ofNat_of_zero_le (show 0 <= j by omega)
   obtain ⟨k,hk⟩:=Int.eq_ofNat_of_zero_le (show 0 <= s + 1 by omega)
   have hks:s = (k:Int) - 1:=by omega
   subst hks
   have hkn:k <= F.r.states.length:=by omega
   have hfew:=h.ok.few
   obtain ⟨T,H,hT,hH,hlt,hsay⟩:=h.data
   obtain ⟨g1,g2⟩:=hsay a b k (by omega) (by omega) hkn
   have hcl:a * nC F + b < nN F:=cell_lt (by omega) (by omega)
   have hlt:=hlt (a * nC F + b)
   have HC1:Hid (Calls Tryz.prog 44 #[.agg #[I J (nC F:Int),.slice (some ⟨p.hb,0,none⟩) (nN F) (nN F)],I J (a:Int),I J (b:Int)] w fun e w'=>e = .returned (.int .u16 (H (a * nC F + b):Int)) /\ ∃ o,w' = w.alloc o):=atU_calls (nC F) p.hb (nN F) a b H w hH hcl h.small
   have HC2:Hid (∀ W,Below w.heap.size w W -> Calls Tryz.prog 46 #[.agg #[I J (nC F:Int),.slice (some ⟨p.gs k,0,none⟩) (nN F) (nN F)],I J (a:Int),I J (b:Int)] W fun e w'=>e = .returned (I J (T k (a * nC F + b))) /\ ∃ o,w' = W.alloc o):=fun W hW=>atI_calls (nC F) (p.gs k) (nN F) a b (T k) W ((hT k hkn).of_block (hW.block _ (hT k hkn).lt)) hcl h.small
   have HG:Hid (hasE (H (a * nC F + b)) ((k:Int) - 1) = (G a b ((k:Int) - 1)).isSome /\ ∀ v,G a b ((k:Int) - 1) = some v -> T k (a * nC F + b) = v):=⟨g1,g2⟩
   have c14:=h.c14
   have c15:=h.c15
   have c16:=h.c16
   have hn:=h.nums k hkn
   have HW:Hid (∀ o,Below w.heap.size w (w.alloc o)):=fun o=>(Below.refl _ _).alloc (Nat.le_refl _) o
   have A14:∀ o,(w.alloc o).cell? ⟨p.b,14,none⟩ = some (.slice (some ⟨p.nb,0,none⟩) (F.r.states.length + 1) p.nc):=fun o=>keepc (HW.out o) c14
   have An1:∀ o,(w.alloc o).cell? ⟨p.nb,k * 2,none⟩ = some (I J (nC F:Int)):=fun o=>keepc (HW.out o) hn.1
   have An2:∀ o,(w.alloc o).cell? ⟨p.nb,k * 2 + 1,none⟩ = some (.slice (some ⟨p.gs k,0,none⟩) (nN F) (nN F)):=fun o=>keepc (HW.out o) hn.2
   have hb:=h.fc.lt
   generalize hSg:H (a * nC F + b) = S at *
   generalize T k (a * nC F + b) = z at *
   generalize G a b ((k:Int) - 1) = R at *
   generalize nC F = C at *
   generalize nN F = M at *
   generalize F.r.states.length = n at *
   have e1:(k:Int) - 1 + 1 = (k:Int):=by omega
   clear h hT hH hsay g1 g2 hcl hSg hn
   go_enter Tryz.func20,Tryz.ntmps20
   go_wp2_with fail
   refine HC1.out.mono ?_
   rintro e w1 ⟨rfl,o,rfl⟩
   go_wp2_with fail
   refine (has_calls S ((k:Int) - 1) _ (by omega) (by omega) (by omega)).mono ?_
   rintro e w2 ⟨rfl,rfl⟩
   cases hr:hasE S ((k:Int) - 1) with
   | false=>
     have HE:Hid (R = none):=by
      have:=HG.out.1
      rw [hr] at this
      cases R with
      | none=>rfl
      | some v=>cases this
     clear hr HG
     go_wp2
     go_ret2
     rw [HE.out]
     exact ⟨rfl,HW.out _⟩
   | true=>
     have HE:Hid (R = some z):=by
      have:=HG.out.1
      rw [hr] at this
      cases R with
      | none=>cases this
      | some v=>show some v = some z; rw [HG.out.2 v rfl]
     clear hr HG
     go_wp2_with fail
     refine (HC2.out _ (HW.out _)).mono ?_
     rintro e w3 ⟨rfl,o2,rfl⟩
     go_wp2
     go_ret2
     rw [HE.out]
     exact ⟨rfl,(HW.out _).alloc (by simp) _⟩
set_option maxRecDepth 20000
set_option maxHeartbeats 1000000
def updE (G:Tb) (i j s v:Int):Tb:=fun a b c=>if a = i /\ b = j /\ c = s then some v else G a b c
theorem updE_at {G:Tb} {i j s v:Int}:updE G i j s v i j s = some v:=by simp [updE]
theorem updE_other {G:Tb} {i j s v a b c:Int} (h:¬ (a = i /\ b = j /\ c = s)):updE G i j s v a b c = G a b c:=by unfold updE; rw [if_neg h]
theorem Says.put {F:Fe} {T:Nat -> Nat -> Int} {H:Nat -> Nat} {G:Tb} (h:Says F T H G) {a b k:Nat} {v:Int} (hb:b <= F.ys.length) :
 Says F (fun l c=>if l = k then (if c = a * nC F + b then v else T k c) else T l c) (fun c=>if c = a * nC F + b then withE (H (a * nC F + b)) ((k:Int) - 1) else H c) (updE G a b ((k:Int) - 1) v):=by
 intro i j l hi hj hl
 have g:=h i j l hi hj hl
 by_cases e:i * nC F + j = a * nC F + b
 ·obtain ⟨rfl,rfl⟩:=cell_one (C:=nC F) (by unfold nC; omega) (by unfold nC; omega) e
  simp only [if_pos]
  rw [has_with (by omega) (by omega),g.1]
  by_cases el:l = k
  ·subst el
   rw [updE_at]
   refine ⟨by simp,fun u hu=>?_⟩
   simp only [if_pos]
   exact Option.some.inj hu
  ·rw [updE_other (by omega),decide_eq_false (by omega),Bool.or_false]
   refine ⟨rfl,fun u hu=>?_⟩
   simp only [if_neg el]
   exact g.2 u hu
 ·simp only [if_neg e]
  have hne:¬ ((i:Int) = a /\ (j:Int) = b /\ (l:Int) - 1 = (k:Int) - 1):=by
   rintro ⟨h1,h2,-⟩
   have:i = a:=by omega
   have:j = b:=by omega
   subst_vars
   exact e rfl
  rw [updE_other hne]
  refine ⟨g.1,fun u hu=>?_⟩
  rw [<- g.2 u hu]
  split
  ·next el=>rw [el]
  ·rfl
theorem below_set {w0 w:World} (h:Below w0.heap.size w0 w) {a:Addr} (ha:w0.heap.size <= a.block) (v:Value):Below w0.heap.size w0 (w.setCell a v):=
 h.trans ⟨rfl,rfl,rfl,by rw [nblk_setCell]; exact Nat.le_refl _,fun k hk=>blk_setCell_other _ _ _ _ (by omega)⟩
theorem rows_put {w:World} {gs:Nat -> Nat} {n M k c:Nat} {T:Nat -> Nat -> Int} {v:Int} (hT:∀ l,l <= n -> rowI w (gs l) M (T l)) (h2:∀ l,l <= n -> k ≠ l -> gs k ≠ gs l) :
 ∀ l,l <= n -> rowI (w.setCell ⟨gs k,c,none⟩ (I J v)) (gs l) M ((fun l c'=>if l = k then (if c' = c then v else T k c') else T l c') l):=by
 intro l hl
 by_cases e:l = k
 ·subst e
  refine ((hT l hl).set c (I J v)).congr (fun i _=>?_)
  simp only [if_pos]
  split <;> rfl
 ·simp only [if_neg e]
  exact (hT l hl).setOther (fun h=>h2 l hl (fun h'=>e h'.symm) h.symm) _
section
variable {w0 w:World} {F:Fe} {A:Fx} {p:Wp} {G:Tb}
/-- What the first store leaves: all but the bits. -/
structure Wh (w0:World) (F:Fe) (A:Fx) (p:Wp) (w:World) (T:Nat -> Nat -> Int) (H:Nat -> Nat):Prop where
 low:Below w0.heap.size w0 w
 box:w.heap[p.b]? = some (.cells (wkCells F A p) 112 (0,0))
 nums:∀ k,k <= F.r.states.length -> w.cell? ⟨p.nb,k * 2,none⟩ = some (I J (nC F:Int)) /\ w.cell? ⟨p.nb,k * 2 + 1,none⟩ = some (.slice (some ⟨p.gs k,0,none⟩) (nN F) (nN F))
 rows:∀ k,k <= F.r.states.length -> rowI w (p.gs k) (nN F) (T k)
 row:rowU w p.hb (nN F) H
theorem Wh.below {T:Nat -> Nat -> Int} {H:Nat -> Nat} {w':World} (h:Wh w0 F A p w T H) (hb:Below w.heap.size w w'):Wh w0 F A p w' T H:=
 ⟨h.low.trans (hb.mono h.low.size),by rw [hb.block _ (lt_block h.box)]; exact h.box,fun k hk=>⟨keepc hb (h.nums k hk).1,keepc hb (h.nums k hk).2⟩,fun k hk=>(h.rows k hk).of_block (hb.block _ (h.rows k hk).lt),h.row.of_block (hb.block _ h.row.lt)⟩
theorem Wh.put1 {T:Nat -> Nat -> Int} {H:Nat -> Nat} (h:Wh w0 F A p w T H) (hk:Wk w0 F A p w G) {k c:Nat} (hkn:k <= F.r.states.length) (v:Int) :
 Wh w0 F A p (w.setCell ⟨p.gs k,c,none⟩ (I J v)) (fun l c'=>if l = k then (if c' = c then v else T k c') else T l c') H:=by
 obtain ⟨n1,n2,n3,n4⟩:=hk.new k hkn
 exact ⟨below_set h.low n1 _,by rw [blk_setCell_other _ _ _ _ n2.symm]; exact h.box,fun l hl=>⟨by rw [World.cell?_of_block (w:=w) (blk_setCell_other _ _ _ _ n3.symm)]; exact (h.nums l hl).1,by rw [World.cell?_of_block (w:=w) (blk_setCell_other _ _ _ _ n3.symm)]; exact (h.nums l hl).2⟩,
  rows_put h.rows (fun l hl=>hk.two k l hkn hl),h.row.setOther (fun e=>n4 e.symm) _⟩
theorem Wh.put2 {T:Nat -> Nat -> Int} {H:Nat -> Nat} {w1:World} (h:Wh w0 F A p w1 T H) (hk:Wk w0 F A p w G) {c u:Nat} :
 Wh w0 F A p (w1.setCell ⟨p.hb,c,none⟩ (.int .u16 (u:Int))) T (fun c'=>if c' = c then u else H c'):=by
 obtain ⟨n1,n2,n3⟩:=hk.newh
 refine ⟨below_set h.low n1 _,by rw [blk_setCell_other _ _ _ _ n2.symm]; exact h.box,fun l hl=>⟨by rw [World.cell?_of_block (w:=w1) (blk_setCell_other _ _ _ _ n3.symm)]; exact (h.nums l hl).1,by rw [World.cell?_of_block (w:=w1) (blk_setCell_other _ _ _ _ n3.symm)]; exact (h.nums l hl).2⟩,
  fun l hl=>(h.rows l hl).setOther (hk.new l hl).2.2.2 _,(h.row.set c _).congr (fun i _=>?_)⟩
 simp only
 split <;> rfl
end
theorem keep_calls {w0:World} {F:Fe} {A:Fx} {p:Wp} {G:Tb} (s:Int) (a b:Nat) (v:Int) (w:World) (h:Wk w0 F A p w G) (hs:-1 <= s) (hs2:s < F.r.states.length) (hi:a <= F.xs.length) (hj:b <= F.ys.length) :
 Calls Tryz.prog 75 #[.pointer (some ⟨p.b,0,none⟩),I J s,I J (a:Int),I J (b:Int),I J v] w fun e w'=>e = .returned (.tuple #[]) /\ Wk w0 F A p w' (updE G a b s v):=by
 obtain ⟨k,hk⟩:=Int.eq_ofNat_of_zero_le (show 0 <= s + 1 by omega)
 have hks:s = (k:Int) - 1:=by omega
 subst hks
 have hkn:k <= F.r.states.length:=by omega
 have hfew:=h.ok.few
 obtain ⟨T,H,hT,hH,hlt,hsay⟩:=h.data
 have hcl:a * nC F + b < nN F:=cell_lt hi hj
 have HW0:Wh w0 F A p w T H:=⟨h.low,h.box,h.nums,hT,hH⟩
 have HC0:Hid (Calls Tryz.prog 111 #[.agg #[I J (nC F:Int),.slice (some ⟨p.gs k,0,none⟩) (nN F) (nN F)],I J (a:Int),I J (b:Int),I J v] w fun e w'=>e = .returned (.tuple #[]) /\ ∃ o,w' = (w.setCell ⟨p.gs k,a * nC F + b,none⟩ (I J v)).alloc o):=putI_calls (nC F) (p.gs k) (nN F) a b v (T k) w (hT k hkn) hcl h.small
 have HY:Hid (∀ o,Wh w0 F A p ((w.setCell ⟨p.gs k,a * nC F + b,none⟩ (I J v)).alloc o) (fun l c'=>if l = k then (if c' = a * nC F + b then v else T k c') else T l c') H):=fun o=>(HW0.put1 h hkn v).below ((Below.refl _ _).alloc (Nat.le_refl _) o)
 have HL:Hid (H (a * nC F + b) < 65536):=by show _ < _; have:=hlt (a * nC F + b); omega
 have HC1:Hid (∀ W,Wh w0 F A p W (fun l c'=>if l = k then (if c' = a * nC F + b then v else T k c') else T l c') H -> Calls Tryz.prog 44 #[.agg #[I J (nC F:Int),.slice (some ⟨p.hb,0,none⟩) (nN F) (nN F)],I J (a:Int),I J (b:Int)] W fun e w'=>e = .returned (.int .u16 (H (a * nC F + b):Int)) /\ ∃ o,w' = W.alloc o):=fun W hW=>atU_calls (nC F) p.hb (nN F) a b H W hW.row hcl h.small
 have HC2:Hid (∀ (u:Nat) W,Wh w0 F A p W (fun l c'=>if l = k then (if c' = a * nC F + b then v else T k c') else T l c') H -> Calls Tryz.prog 112 #[.agg #[I J (nC F:Int),.slice (some ⟨p.hb,0,none⟩) (nN F) (nN F)],I J (a:Int),I J (b:Int),.int .u16 (u:Int)] W fun e w'=>e = .returned (.tuple #[]) /\ ∃ o,w' = (W.setCell ⟨p.hb,a * nC F + b,none⟩ (.int .u16 (u:Int))).alloc o):=fun u W hW=>putU_calls (nC F) p.hb (nN F) a b u H W hW.row hcl h.small
 have HK:Hid (∀ W o,Wh w0 F A p W (fun l c'=>if l = k then (if c' = a * nC F + b then v else T k c') else T l c') H -> Wk w0 F A p ((W.setCell ⟨p.hb,a * nC F + b,none⟩ (.int .u16 (withE (H (a * nC F + b)) ((k:Int) - 1):Int))).alloc o) (updE G a b ((k:Int) - 1) v)):=fun W o hW=>by
  have y:=(hW.put2 h (c:=a * nC F + b) (u:=withE (H (a * nC F + b)) ((k:Int) - 1))).below ((Below.refl _ _).alloc (Nat.le_refl _) o)
  refine ⟨y.low,h.mem,h.ok,y.box,y.nums,⟨_,_,y.rows,y.row,fun c=>?_,hsay.put hj⟩,fun i j s' hn=>?_,h.new,h.newh,h.two⟩
  ·show (if _ then _ else _) < 1024
   split
   ·exact with_lt (hlt _) (by omega)
   ·exact hlt c
  ·rw [updE_other (by omega)]; exact h.neg i j s' hn
 have HX:Hid (∀ W,Wh w0 F A p W (fun l c'=>if l = k then (if c' = a * nC F + b then v else T k c') else T l c') H -> W.cell? ⟨p.b,15,none⟩ = some (I J (nC F:Int)) /\ W.cell? ⟨p.b,16,none⟩ = some (.slice (some ⟨p.hb,0,none⟩) (nN F) (nN F))):=fun W hW=>⟨blk hW.box rfl,blk hW.box rfl⟩
 have HA:Hid (∀ W o,Wh w0 F A p W (fun l c'=>if l = k then (if c' = a * nC F + b then v else T k c') else T l c') H -> Wh w0 F A p (W.alloc o) (fun l c'=>if l = k then (if c' = a * nC F + b then v else T k c') else T l c') H):=fun W o hW=>hW.below ((Below.refl _ _).alloc (Nat.le_refl _) o)
 have c14:=h.c14
 have hn:=h.nums k hkn
 have hb:=h.fc.lt
 generalize (fun l c'=>if l = k then (if c' = a * nC F + b then v else T k c') else T l c':Nat -> Nat -> Int) = T' at *
 obtain ⟨n1,n2⟩:=hn
 clear HW0 hlt hsay hT hH hcl h
 generalize hS:H (a * nC F + b) = S at *
 generalize (a * nC F + b) = cc at *
 have e1:(k:Int) - 1 + 1 = (k:Int):=by omega
 clear hS
 go_enter Tryz.func75,Tryz.ntmps75
 go_wp2_with fail
 refine HC0.out.mono ?_
 rintro e w1 ⟨rfl,o,rfl⟩
 have HY1:=HY.out o
 generalize ((w.setCell ⟨p.gs k,cc,none⟩ (I J v)).alloc o) = W1 at *
 obtain ⟨x15,x16⟩:=HX.out W1 HY1
 clear c14 n1 n2 HC0 HY hb
 have hbb:p.b < W1.heap.size:=lt_block HY1.box
 go_wp2_with fail
 have D0:Hid (Wh w0 F A p W1.drew T' H):=HY1.below (Below.refl _ _).drew
 have D1:Hid (∀ o,Wh w0 F A p (W1.alloc o).drew T' H):=fun o=>(HA.out _ o HY1).below (Below.refl _ _).drew
 have D2:Hid (∀ o,Wh w0 F A p (W1.drew.alloc o) T' H):=fun o=>HA.out _ o D0.out
 have HKd:Hid (∀ o o',Wk w0 F A p (((W1.alloc o).setCell ⟨p.hb,cc,none⟩ (.int .u16 (withE S ((k:Int) - 1):Int))).alloc o').drew (updE G a b ((k:Int) - 1) v)):=fun o o'=>(HK.out _ o' (HA.out _ o HY1)).below (Below.refl _ _).drew
 have x17:=HX.out _ D0.out
 have x18:=fun o=>HX.out _ (D1.out o)
 go_region_held3 (fun W=>W.cell? ⟨p.b,15,none⟩ = some (I J (nC F:Int)) /\ W.cell? ⟨p.b,16,none⟩ = some (.slice (some ⟨p.hb,0,none⟩) (nN F) (nN F))) (first | exact ⟨x15,x16⟩ | exact x17 | exact HX.out _ (D1.out _) | exact HX.out _ (D2.out _) | exact ⟨(HKd.out _ _).c15,(HKd.out _ _).c16⟩) (first
  | (go_at_call 44; refine (HC1.out _ (by first | exact HY1 | exact D0.out | exact D1.out _ | exact D2.out _)).mono ?_; rintro e V1 ⟨rfl,o1,rfl⟩)
  | (go_at_call 80; refine (with_calls S ((k:Int) - 1) _ HL.out (by omega) (by omega)).mono ?_; rintro e V2 ⟨rfl,rfl⟩)
  | (go_at_call 112; refine (HC2.out _ _ (by first | exact HY1 | exact D0.out | exact D1.out _ | exact D2.out _)).mono ?_; rintro e V3 ⟨rfl,o3,rfl⟩))
 all_goals (go_end0; exact ⟨rfl,HKd.out _ _⟩)
set_option maxRecDepth 20000
set_option maxHeartbeats 1000000
theorem wrap_is (n:Int):IntKind.i64.wrap n = wrap64 n:=by rw [IntKind.wrap_i64,wrap64]
theorem addE_one {F:Fe} {c i j n:Int}:addE F 1 c i j n = wrap64 (wrap64 (n - costE F.vs c) + subE F i j):=by unfold addE; rw [if_pos rfl]
theorem addE_gap {F:Fe} {k c i j n:Int} (h:k ≠ 1):addE F k c i j n = wrap64 (n - costE F.vs c):=by unfold addE; rw [if_neg h]
theorem given_calls {w0:World} {F:Fe} {A:Fx} {p:Wp} {G:Tb} (k s c:Int) (a b:Nat) (w:World) (h:Wk w0 F A p w G) (hs:-1 <= s) (hs2:s < F.r.states.length) (hc:c = -1 \/ (0 <= c /\ c < F.vs.length)) (hi:a <= F.xs.length) (hj:b <= F.ys.length) :
 Calls Tryz.prog 81 #[.pointer (some ⟨p.b,0,none⟩),I J k,.agg #[I J s,I J c],I J (a:Int),I J (b:Int)] w fun e w'=>e = .returned (.tuple #[I J ((givenE F G k (s,c) a b).getD 0),.bool (givenE F G k (s,c) a b).isSome]) /\ Below w.heap.size w w':=by
 have hd:=dn_ov k
 have hlx:=h.ok.lx
 have hly:=h.ok.ly
 have HC1:Hid (∀ W,Below w.heap.size w W -> Calls Tryz.prog 20 #[.pointer (some ⟨p.b,0,none⟩),I J s,I J ((a:Int) - dnE k),I J ((b:Int) - ovE k)] W fun e w'=>e = .returned (.tuple #[I J ((G ((a:Int) - dnE k) ((b:Int) - ovE k) s).getD 0),.bool (G ((a:Int) - dnE k) ((b:Int) - ovE k) s).isSome]) /\ Below W.heap.size W w'):=fun W hW=>value_calls s _ _ W (h.below hW) hs hs2 (by omega) (by omega)
 have HC2:Hid (∀ W,Below w.heap.size w W -> Calls Tryz.prog 73 #[.pointer (some ⟨p.b,0,none⟩),.agg #[I J s,I J c]] W fun e w'=>e = .returned (I J (costE F.vs c)) /\ Below W.heap.size W w'):=fun W hW=>cost_calls s c W (h.below hW).fc hc
 have HC3:Hid (k = 1 -> (∃ v,G ((a:Int) - dnE k) ((b:Int) - ovE k) s = some v) -> ∀ W,Below w.heap.size w W -> Calls Tryz.prog 113 #[.pointer (some ⟨p.b,0,none⟩),I J (a:Int),I J (b:Int)] W fun e w'=>e = .returned (I J (subE F a b)) /\ ∃ n,w' = W.drewN n):=fun hk1 ⟨v,hv⟩ W hW=>by
  subst hk1
  have d1:dnE 1 = 1:=rfl
  have d2:ovE 1 = 1:=rfl
  rw [d1,d2] at hv
  have hp:¬ ((a:Int) - 1 < 0 \/ (b:Int) - 1 < 0):=fun hn=>by rw [h.neg _ _ _ hn] at hv; cases hv
  obtain ⟨a',rfl⟩:∃ a',a = a' + 1:=⟨a - 1,by omega⟩
  obtain ⟨b',rfl⟩:∃ b',b = b' + 1:=⟨b - 1,by omega⟩
  exact subst_calls a' b' W (h.below hW).fc h.ok.toFeR (by omega) (by omega)
 have HG:Hid (givenE F G k (s,c) a b = (G ((a:Int) - dnE k) ((b:Int) - ovE k) s).map (addE F k c a b)):=rfl
 have HT:Hid (∀ W V,Below w.heap.size w W -> Below W.heap.size W V -> Below w.heap.size w V):=fun W V h1 h2=>h1.trans (h2.mono h1.size)
 have HB0:Hid (∀ o,Below w.heap.size w (w.alloc o)):=fun o=>(Below.refl _ _).alloc (Nat.le_refl _) o
 have hb:=h.fc.lt
 obtain ⟨R,hR⟩:∃ R,givenE F G k (s,c) a b = R:=⟨_,rfl⟩
 rw [hR] at HG ⊢
 clear h hR
 obtain ⟨d0,d1,d2,d3,d4⟩:=hd
 have HSt:=step_calls k
 generalize dnE k = dn at *
 generalize ovE k = ov at *
 go_enter Tryz.func81,Tryz.ntmps81
 go_wp2_with fail
 refine (HSt _).mono ?_
 rintro e w1 ⟨rfl,rfl⟩
 clear HSt
 go_wp2_with fail
 refine (HC1.out _ (HB0.out _)).mono ?_
 rintro e w2 ⟨rfl,hb2⟩
 clear HC1
 have HB2:Hid (Below w.heap.size w w2):=HT.out _ _ (HB0.out _) hb2
 have e0:w2.cell? ⟨w.heap.size,0,none⟩ = some (I J s):=keepc hb2 (blk (heap_alloc_new w (.cells #[I J s,I J c] 44)) rfl)
 have e1:w2.cell? ⟨w.heap.size,1,none⟩ = some (I J c):=keepc hb2 (blk (heap_alloc_new w (.cells #[I J s,I J c] 44)) rfl)
 clear hb2
 cases hg:G ((a:Int) - dn) ((b:Int) - ov) s with
 | none=>
   rw [hg] at HG
   clear hg HC3
   go_wp2
   go_ret2
   rw [HG.out]
   exact ⟨rfl,HB2.out⟩
 | some n=>
   rw [hg] at HG
   have HC4:Hid (k = 1 -> ∀ W,Below w.heap.size w W -> Calls Tryz.prog 113 #[.pointer (some ⟨p.b,0,none⟩),I J (a:Int),I J (b:Int)] W fun e w'=>e = .returned (I J (subE F a b)) /\ ∃ n,w' = W.drewN n):=fun hk1=>HC3.out hk1 ⟨n,hg⟩
   clear hg HC3
   have hbw:p.b < w2.heap.size:=Nat.lt_of_lt_of_le hb HB2.out.size
   go_upto_region 5 with (fail)
   go_cut [14] (fun v wc=>v = I J (wrap64 (n - costE F.vs c)) /\ Below w.heap.size w wc)
   case first=>
    have D0:Hid (Below w.heap.size w w2.drew):=HB2.out.drew
    go_region_held3 (fun W=>W.cell? ⟨w.heap.size,0,none⟩ = some (I J s) /\ W.cell? ⟨w.heap.size,1,none⟩ = some (I J c)) (first | exact ⟨e0,e1⟩ | exact ⟨keepc (Below.refl _ _).drew e0,keepc (Below.refl _ _).drew e1⟩ | exact hv) (first
     | (go_at_call 73; refine (HC2.out _ (by first | exact HB2.out | exact D0.out)).mono ?_; rintro e V1 ⟨rfl,hv1⟩; have hv:=And.intro (keepc hv1 e0) (keepc hv1 e1); have HV1:=HT.out _ _ (by first | exact HB2.out | exact D0.out) hv1))
    all_goals (go_wp2_with fail; go_meet; exact ⟨by rw [wrap_is],HV1⟩)
   case rest=>
    obtain ⟨rfl,hbc⟩:=hcut
    have HBc:Hid (Below w.heap.size w wc):=hbc
    have hbw2:p.b < wc.heap.size:=Nat.lt_of_lt_of_le hb HBc.out.size
    clear hbc e0 e1 HC2
    by_cases hk:k = 1
    ·subst hk
     have k1:((1:Int) == 1) = true:=rfl
     have HS:=HC4.out rfl
     have HR:Hid (R = some (wrap64 (wrap64 (n - costE F.vs c) + subE F a b))):=by show _ = _; rw [HG.out]; show some (addE F 1 c a b n) = _; rw [addE_one]
     generalize wrap64 (n - costE F.vs c) = z at *
     generalize subE F a b = y at *
     clear HG HC4
     go_wp2_with fail
     refine (HS _ HBc.out).mono ?_
     rintro e w3 ⟨rfl,m,rfl⟩
     go_wp2
     go_ret2
     rw [HR.out]
     exact ⟨rfl,below_dn HBc.out m⟩
    ·have k1:(k == 1) = false:=by simpa using hk
     have HR:Hid (R = some (wrap64 (n - costE F.vs c))):=by show _ = _; rw [HG.out]; show some (addE F k c a b n) = _; rw [addE_gap hk]
     generalize wrap64 (n - costE F.vs c) = z at *
     clear HG HC4
     go_wp2
     go_ret2
     rw [HR.out]
     exact ⟨rfl,HBc.out⟩
set_option maxRecDepth 20000
set_option maxHeartbeats 1000000
theorem great_cons {F:Fe} {G:Tb} {k i j:Int} {acc:Option Int} {es:List (Int × Int)} {q:Nat} {e:Int × Int} (h:es[q]? = some e):greatE F G k i j acc (es.drop q) = greatE F G k i j (pickE acc (givenE F G k e i j)) (es.drop (q + 1)):=by
 rw [dropP h]
 rfl
theorem greatest_calls {w0:World} {F:Fe} {A:Fx} {p:Wp} {G:Tb} (k:Nat) (kd:Int) (es:List (Int × Int)) (a b:Nat) (w:World) (h:Wk w0 F A p w G) (hk:F.r.states[k]? = some (kd,es)) (hi:a <= F.xs.length) (hj:b <= F.ys.length) :
 Calls Tryz.prog 77 #[.pointer (some ⟨p.b,0,none⟩),I J (k:Int),I J (a:Int),I J (b:Int)] w fun e w'=>e = .returned (.tuple #[I J ((greatE F G kd a b none es).getD 0),.bool (greatE F G kd a b none es).isSome]) /\ Below w.heap.size w w':=by
 have hmem:=List.mem_of_getElem? hk
 have hkl:k < F.r.states.length:=(List.getElem?_eq_some_iff.1 hk).1
 have hfew:=h.ok.few
 have HC:Hid (∀ W,Below w.heap.size w W -> ∀ e ∈ es,Calls Tryz.prog 81 #[.pointer (some ⟨p.b,0,none⟩),I J kd,.agg #[I J e.1,I J e.2],I J (a:Int),I J (b:Int)] W fun x w'=>x = .returned (.tuple #[I J ((givenE F G kd e a b).getD 0),.bool (givenE F G kd e a b).isSome]) /\ Below W.heap.size W w'):=fun W hW e he=>by
  have:=h.ok.edges _ hmem e he
  exact given_calls kd e.1 e.2 a b W (h.below hW) this.1.1 this.1.2 this.2 hi hj
 have hst:=h.fc.states
 have hstn:=hst.length
 have hsts:=hst.short
 unfold maxLen at hsts
 obtain ⟨tb,tof,hta,hts⟩:=hst.cells (by omega)
 obtain ⟨ea,en,ec,t0,t1,hpc⟩:=hts k _ hk
 simp only at t0 t1 hpc
 have hen:=hpc.short
 have hel:=hpc.length
 have HPC:Hid (PcsAt w ea en es):=hpc
 have c10:=h.fc.c10
 rw [hta] at c10
 have hb:=h.fc.lt
 have hb2:tb < w.heap.size:=World.block_lt_of_cell? w _ t0
 have hkt:k < A.t.n:=by omega
 obtain ⟨R,hR⟩:∃ R,greatE F G kd a b none es = R:=⟨_,rfl⟩
 have HR:Hid (greatE F G kd a b none (es.drop 0) = R):=by rw [List.drop_zero]; exact hR
 have HB1:Hid (Below w.heap.size w (w.alloc (.cells #[I J kd,.slice ea en ec] 42))):=(Below.refl _ _).alloc (Nat.le_refl _) _
 have HX1:Hid ((w.alloc (.cells #[I J kd,.slice ea en ec] 42)).cell? ⟨w.heap.size,0,none⟩ = some (I J kd)):=blk (heap_alloc_new w _) rfl
 have HT:Hid (∀ U W V,Below w.heap.size w U -> Below U.heap.size U W -> Below W.heap.size W V -> Below U.heap.size U V /\ Below w.heap.size w V):=fun U W V h0 h1 h2=>⟨h1.trans (h2.mono h1.size),(h0.trans (h1.mono h0.size)).trans (h2.mono (Nat.le_trans h0.size h1.size))⟩
 unfold maxLen at hen
 rw [hR]
 clear hR h hst hts hpc hmem
 go_enter Tryz.func77,Tryz.ntmps77
 go_wp2
 generalize (w.alloc (.cells #[I J kd,.slice ea en ec] 42)) = w1 at *
 go_loopw [11,12,14,15,16,29] (fun bv fv _ _ _ iv wr=>∃ (q:Nat) (acc:Option Int),q <= en /\ iv = I J q /\ bv = I J (acc.getD 0) /\ fv = .bool acc.isSome /\ Hid (greatE F G kd a b acc (es.drop q) = R /\ Below w1.heap.size w1 wr)) (fun _ _ _ _ _ i _=>en - (intOf i).toNat)
 case atStart=>exact ⟨0,none,Nat.zero_le _,rfl,rfl,rfl,HR.out,Below.refl _ _⟩
 case round=>
  clear HR
  obtain ⟨q,acc,hq,rfl,rfl,rfl,HL⟩:=hrel
  by_cases hlt:q < en
  ·obtain ⟨d,hdi⟩:∃ d,es[q]? = some d:=⟨es[q]'(by rw [hel]; exact hlt),List.getElem?_eq_getElem _⟩
   have hBw:=HB1.out.trans (HL.out.2.mono HB1.out.size)
   obtain ⟨gb,go,rfl,hcs⟩:=(HPC.out.below hBw).cells (by omega)
   obtain ⟨c1,c2⟩:=hcs q d hdi
   have x1:=keepc HL.out.2 HX1.out
   have HD:Hid (greatE F G kd a b (pickE acc (givenE F G kd d a b)) (es.drop (q + 1)) = R /\ Below w.heap.size w wr /\ d ∈ es):=⟨by rw [<- great_cons hdi]; exact HL.out.1,hBw,List.mem_of_getElem? hdi⟩
   obtain ⟨s,c⟩:=d
   simp only at c1 c2
   have hcb:gb < wr.heap.size:=World.block_lt_of_cell? wr _ c1
   have hxb:w.heap.size < wr.heap.size:=World.block_lt_of_cell? wr _ x1
   clear hcs hdi hBw
   go_wp2_with fail
   have hBo:Below wr.heap.size wr (wr.alloc (.cells #[I J s,I J c] 44)):=(Below.refl _ _).alloc (Nat.le_refl _) _
   refine (HC.out _ (HD.out.2.1.trans (hBo.mono HD.out.2.1.size)) _ HD.out.2.2).mono ?_
   rintro e w2 ⟨rfl,hb2⟩
   have HB2:Hid (Below w1.heap.size w1 w2):=(HT.out _ _ _ HB1.out HL.out.2 (hBo.trans (hb2.mono hBo.size))).1
   clear hb2 hBo c1 c2 x1 HL hcb hxb
   cases hg:givenE F G kd (s,c) a b with
   | none=>
     rw [hg] at HD
     have HD2:Hid (greatE F G kd a b acc (es.drop (q + 1)) = R):=HD.out.1
     clear HD hg
     go_wp2
     go_roundw
     case rel=>exact ⟨q + 1,acc,by omega,by go_num,rfl,rfl,HD2.out,HB2.out⟩
     case measure=>simp [intOf]; omega
   | some n=>
     rw [hg] at HD
     clear hg
     cases acc with
     | none=>
       have HD2:Hid (greatE F G kd a b (some n) (es.drop (q + 1)) = R):=HD.out.1
       clear HD
       go_wp2
       go_roundw
       case rel=>exact ⟨q + 1,some n,by omega,by go_num,rfl,rfl,HD2.out,HB2.out⟩
       case measure=>simp [intOf]; omega
     | some m=>
       by_cases hmn:m < n
       ·have HD2:Hid (greatE F G kd a b (some n) (es.drop (q + 1)) = R):=by show _ = _; rw [<- HD.out.1]; simp [pickE,hmn]
        have k1:decide (m < n) = true:=by simpa using hmn
        clear HD
        simp only [Option.getD_some,Option.isSome_some] at *
        go_wp2
        go_roundw
        case rel=>exact ⟨q + 1,some n,by omega,by go_num,rfl,rfl,HD2.out,HB2.out⟩
        case measure=>simp [intOf]; omega
       ·have HD2:Hid (greatE F G kd a b (some m) (es.drop (q + 1)) = R):=by show _ = _; rw [<- HD.out.1]; simp [pickE,hmn]
        have k1:decide (m < n) = false:=by simpa using hmn
        clear HD
        simp only [Option.getD_some,Option.isSome_some] at *
        go_wp2
        go_roundw
        case rel=>exact ⟨q + 1,some m,by omega,by go_num,rfl,rfl,HD2.out,HB2.out⟩
        case measure=>simp [intOf]; omega
  ·have HE:Hid (R = acc /\ Below w.heap.size w wr):=by
    have:=HL.out.1
    rw [List.drop_eq_nil_of_le (by rw [hel]; omega)] at this
    exact ⟨this.symm,HB1.out.trans (HL.out.2.mono HB1.out.size)⟩
   clear HL
   go_wp2
   go_ret2
   rw [HE.out.1]
   exact ⟨rfl,HE.out.2⟩
end Go.Proofs.YtbbbnopganhebabGreat
