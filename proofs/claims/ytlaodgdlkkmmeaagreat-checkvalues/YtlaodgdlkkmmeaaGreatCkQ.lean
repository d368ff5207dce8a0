/-
  What asking keeps: plain facts on expressions that are right.
-/
import Derived.Test.YtlaodgdlkkmmeaaGreatG16
import Derived.Test.YtlaodgdlkkmmeaaGreatG26
namespace Go.Proofs.YtlaodgdlkkmmeaaGreat
open Go.Deep
/-- Definitions may come behind; all else is as it was. -/
structure Sm (c c':Ck):Prop where
 vals:c.values <+: c'.values
 dfs:c.defs <+: c'.defs
 rest:c' = { c with defs:=c'.defs,values:=c'.values }
theorem Sm.refl (c:Ck):Sm c c:=⟨List.prefix_refl _,List.prefix_refl _,rfl⟩
theorem Sm.trans {c c1 c2:Ck} (h:Sm c c1) (k:Sm c1 c2):Sm c c2:=⟨h.vals.trans k.vals,h.dfs.trans k.dfs,by rw [k.rest,h.rest]⟩
theorem Sm.grow {c c':Ck} (h:Sm c c'):c.values.length <= c'.values.length:=h.vals.length_le
theorem Sm.subst {c c':Ck} (h:Sm c c'):c'.subst = c.subst:=by rw [h.rest]
theorem Sm.letters {c c':Ck} (h:Sm c c'):c'.letters = c.letters:=by rw [h.rest]
theorem Sm.had {c c':Ck} (h:Sm c c'):c'.had = c.had:=by rw [h.rest]
theorem Sm.names {c c':Ck} (h:Sm c c'):c'.names = c.names:=by rw [h.rest]
theorem Sm.pl {c c':Ck} (h:Sm c c'):c'.pl = c.pl:=by rw [h.rest]
theorem Sm.pieces {c c':Ck} (h:Sm c c'):c'.pieces = c.pieces:=by rw [h.rest]
theorem layB_sm {c c':Ck} {d:Df} {p:Int} {m:Mn} (hl:layB c d p = .ok (c',m)):Sm c c':=by
 unfold layB at hl
 split at hl
 ·cases hl
 ·split at hl
  ·cases hl
  ·cases hl
   exact ⟨List.prefix_append _ _,List.prefix_append _ _,rfl⟩
/-- A list of expressions that are right; an expression that is. -/
def okF (F:Fo):Prop:=∃ d,rgtF d F = true
def okE (h:Hd) (k:Fo):Prop:=hdRight h (lenF k) = true /\ okF k
theorem okF_node {b o:Nat} {h:Hd} {k r:Fo} (hF:okF (.node b o h k r)):okE h k /\ okF r:=by
 obtain ⟨d,hd⟩:=hF
 simp only [rgtF,Bool.and_eq_true] at hd
 exact ⟨⟨hd.2.1,_,hd.2.2.1⟩,_,hd.2.2.2⟩
def accF (ms:List Mn):Er (Ck × List Mn) -> Er (Ck × List Mn)
 | .error f=>.error f
 | .ok (c,l)=>.ok (c,ms ++ l)
theorem accF_nil (r:Er (Ck × List Mn)):accF [] r = r:=by
 cases r with
 | error f=>rfl
 | ok x=>rfl
theorem accF_err {ms:List Mn} {b o:Nat} {h:Hd} {k r:Fo} {c:Ck} {f:Int × Int} (he:askE c (h,k) = .error f):accF ms (askF (.node b o h k r) c) = .error f:=by
 have he':exprC c h k (askF k c) = .error f:=he
 simp only [askF,he',accF]
theorem accF_step {ms:List Mn} {b o:Nat} {h:Hd} {k r:Fo} {c c1:Ck} {m:Mn} (he:askE c (h,k) = .ok (c1,m)):accF ms (askF (.node b o h k r) c) = accF (ms ++ [m]) (askF r c1):=by
 have he':exprC c h k (askF k c) = .ok (c1,m):=he
 simp only [askF,he']
 cases askF r c1 with
 | error f=>rfl
 | ok x=>obtain ⟨c2,l⟩:=x; simp [accF]
theorem foldB_ok {op p:Int}:∀ {l:List Mn} {c c':Ck} {m m':Mn},CkOk c -> MnOk c.values.length m -> m.isText = false -> foldB op p c m l = .ok (c',m') -> CkOk c' /\ MnOk c'.values.length m' /\ m'.isText = false /\ Sm c c'
 | [],c,c',m,m',h,hm,ht,hf=>by cases hf; exact ⟨h,hm,ht,Sm.refl _⟩
 | k :: r,c,c',m,m',h,hm,ht,hf=>by
   simp only [foldB] at hf
   split at hf
   ·cases hf
   ·rename_i c1 m1 hl
    obtain ⟨h1,h2,h3,-⟩:=layB_ok h hl
    obtain ⟨k1,k2,k3,k4⟩:=foldB_ok h1 h2 h3 hf
    exact ⟨k1,k2,k3,(layB_sm hl).trans k4⟩
theorem foldB_err {op p:Int}:∀ {l:List Mn} {c:Ck} {m:Mn} {f:Int × Int},foldB op p c m l = .error f -> f.1 ≠ 0
 | [],c,m,f,hf=>by cases hf
 | k :: r,c,m,f,hf=>by
   simp only [foldB] at hf
   split at hf
   ·rename_i f' hl; cases hf; exact layB_err hl
   ·exact foldB_err hf
theorem txtAt_none:∀ {F:Fo} {ms:List Mn},ms.length = lenF F -> txtAt F ms = none -> ∀ m ∈ ms,m.isText = false
 | .nil,[],_,_,m,hm=>by simp at hm
 | .nil,_ :: _,hl,_,m,hm=>by simp [lenF] at hl
 | .node _ _ _ _ r,[],_,_,m,hm=>by simp at hm
 | .node _ _ h k r,m0 :: ms,hl,ht,m,hm=>by
   simp only [txtAt] at ht
   split at ht
   ·cases ht
   ·rename_i h0
    rcases List.mem_cons.1 hm with rfl | h1
    ·simpa using h0
    ·exact txtAt_none (F:=r) (by simp [lenF] at hl; omega) ht m h1
/-- What asking an expression leaves, by what its Kids leave. -/
theorem exprC_ok {c c':Ck} {h:Hd} {k:Fo} {m:Mn} (hok:CkOk c) (hr:hdRight h (lenF k) = true) (htx:h.text.length <= maxLen)
 (hk:∀ c1 ms,askF k c = .ok (c1,ms) -> CkOk c1 /\ ms.length = lenF k /\ (∀ m ∈ ms,MnOk c1.values.length m) /\ Sm c c1) (he:exprC c h k (askF k c) = .ok (c',m)):CkOk c' /\ MnOk c'.values.length m /\ Sm c c':=by
 unfold exprC at he
 split at he
 ·obtain ⟨h1,h2,-⟩:=layB_ok hok he
  exact ⟨h1,h2,layB_sm he⟩
 ·split at he
  ·cases he
   exact ⟨hok,⟨htx,fun e=>by simp at e,by simp⟩,Sm.refl _⟩
  ·split at he
   ·split at he
    ·cases he
    ·rename_i m' hl
     cases he
     exact ⟨hok,hok.names _ _ hl,Sm.refl _⟩
   ·rename_i h1 h3 h2
    cases hkk:askF k c with
    | error f=>rw [hkk] at he; cases he
    | ok x=>
      obtain ⟨c1,ms⟩:=x
      rw [hkk] at he
      obtain ⟨k1,k2,k3,k4⟩:=hk c1 ms hkk
      simp only [compB] at he
      split at he
      ·cases he
      ·rename_i htn
       have hnt:=txtAt_none k2 htn
       split at he
       ·exfalso
        unfold hdRight at hr
        rw [if_neg h1,if_neg h2,if_neg h3] at hr
        simp at k2
        split at hr
        ·simp at hr; omega
        ·split at hr
         ·simp at hr; omega
         ·split at hr
          ·simp at hr; omega
          ·cases hr
       ·rename_i m0 l
        split at he
        ·obtain ⟨q1,q2,-⟩:=layB_ok k1 he
         exact ⟨q1,q2,k4.trans (layB_sm he)⟩
        ·obtain ⟨q1,q2,q3,q4⟩:=foldB_ok k1 (k3 m0 (by simp)) (hnt m0 (by simp)) he
         exact ⟨q1,q2,k4.trans q4⟩
/-- The texts of a list of expressions are texts of the machine. -/
def shortF:Fo -> Prop
 | .nil=>True
 | .node _ _ h k r=>h.text.length <= maxLen /\ shortF k /\ shortF r
theorem askF_ok:∀ {F:Fo} {c c':Ck} {ms:List Mn},CkOk c -> okF F -> shortF F -> askF F c = .ok (c',ms) -> CkOk c' /\ ms.length = lenF F /\ (∀ m ∈ ms,MnOk c'.values.length m) /\ Sm c c'
 | .nil,c,c',ms,hok,_,_,h=>by
   cases h
   exact ⟨hok,rfl,fun m hm=>by simp at hm,Sm.refl _⟩
 | .node _ _ hd k r,c,c',ms,hok,hF,hs,h=>by
   obtain ⟨⟨hr,hk⟩,hrr⟩:=okF_node hF
   simp only [askF] at h
   split at h
   ·cases h
   ·rename_i c1 m he
    split at h
    ·cases h
    ·rename_i c2 l hl
     cases h
     obtain ⟨q1,q2,q3⟩:=exprC_ok hok hr hs.1 (fun c1 ms h1=>askF_ok hok hk hs.2.1 h1) he
     obtain ⟨k1,k2,k3,k4⟩:=askF_ok q1 hrr hs.2.2 hl
     refine ⟨k1,by simp [lenF,k2],fun m' hm'=>?_,q3.trans k4⟩
     rcases List.mem_cons.1 hm' with rfl | h1
     ·exact q2.more k4.grow
     ·exact k3 m' h1
theorem askE_ok {c c':Ck} {h:Hd} {k:Fo} {m:Mn} (hok:CkOk c) (hr:okE h k) (htx:h.text.length <= maxLen) (hs:shortF k) (he:askE c (h,k) = .ok (c',m)):CkOk c' /\ MnOk c'.values.length m /\ Sm c c':=
 exprC_ok hok hr.1 htx (fun _ _ h1=>askF_ok hok hr.2 hs h1) he
theorem exprC_err {c:Ck} {h:Hd} {k:Fo} {f:Int × Int} (hk:∀ f,askF k c = .error f -> f.1 ≠ 0) (he:exprC c h k (askF k c) = .error f):f.1 ≠ 0:=by
 unfold exprC at he
 split at he
 ·exact layB_err he
 ·split at he
  ·cases he
  ·split at he
   ·split at he
    ·cases he; simp
    ·cases he
   ·cases hkk:askF k c with
    | error f'=>rw [hkk] at he; simp only [compB] at he; cases he; exact hk _ hkk
    | ok x=>
      obtain ⟨c1,ms⟩:=x
      rw [hkk] at he
      simp only [compB] at he
      split at he
      ·cases he; simp
      ·split at he
       ·cases he
       ·split at he
        ·exact layB_err he
        ·exact foldB_err he
theorem askF_err:∀ {F:Fo} {c:Ck} {f:Int × Int},askF F c = .error f -> f.1 ≠ 0
 | .nil,c,f,h=>by cases h
 | .node _ _ hd k r,c,f,h=>by
   simp only [askF] at h
   split at h
   ·rename_i f' he; cases h; exact exprC_err (fun _ h1=>askF_err h1) he
   ·split at h
    ·rename_i f' he; cases h; exact askF_err he
    ·cases h
end Go.Proofs.YtlaodgdlkkmmeaaGreat
