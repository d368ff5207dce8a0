/-
  Tokens in memory; rows that a call owns: what a store, an append, a call leaves of them. What the tokens of a source are: their numbers, their texts, their places.
-/
import Derived.Test.YtlaodgdlkkmmeaaGreatProg
import Derived.WalkKit
import Derived.WalkSmall
import Derived.BigQuiet
import Derived.Deep.QuietTactic
import Derived.Lib.AppendStr
import Derived.Lib.OthersKept
import Derived.Test.YtlaodgdlkkmmeaaGreatPlain
namespace Go.Proofs.YtlaodgdlkkmmeaaGreat
open Go.RowKit
open Go.Value renaming int->I,string->Ψ,slice->Γ
open Go.IntKind renaming i64->J
open Go.Ending renaming returned->Ω
theorem hid {p:Prop} (h:p):Hid p:=h
theorem ret_int {k:IntKind} {a b:Int} (h:a = b):Ending.returned (.int k a) = Ω (.int k b):=by rw [h]
theorem ret_bool {a b:Bool} (h:a = b):Ending.returned (.bool a) = Ω (.bool b):=by rw [h]
theorem byte_ext {a b:ByteArray} (h:a.data.toList = b.data.toList):a = b:=by
 cases a; cases b; simp at h; subst h; rfl
theorem size_toList (s:ByteArray):s.data.toList.length = s.size:=by simp
theorem getElem?_at (s:ByteArray) (k:Nat) (h:k < s.size):s.data.toList[k]? = some s[k]:=by
 rw [List.getElem?_eq_getElem (by rw [size_toList]; exact h)]
 rfl
theorem info48:(Tryz.prog.info? 124).map (fun i=>(i.zero,i.size,i.bytes)) = some (some (.agg #[I J 0,I J 0,Ψ ByteArray.empty,I J 0]),4,40):=by kernel_rfl
def bs (l:List UInt8):ByteArray:=⟨l.toArray⟩
theorem bs_list (l:List UInt8):(bs l).data.toList = l:=by simp [bs]
theorem bs_size (l:List UInt8):(bs l).size = l.length:=by simp [bs,ByteArray.size]
theorem bs_of (s:ByteArray):bs s.data.toList = s:=byte_ext (by rw [bs_list])
theorem bs_toList (l:List UInt8):(bs l).toList = l:=by rw [ByteArray.toList_eq,bs_list]
def tkAgg (t:Tk):Value:=.agg #[I J t.kind,I J t.num,Ψ (bs t.text),I J (t.pl:Int)]
def tkCells (t:Tk):List Value:=[I J t.kind,I J t.num,Ψ (bs t.text),I J (t.pl:Int)]
theorem tk_len (t:Tk):(tkCells t).length = 4:=rfl
/-- Its numbers are numbers of the machine. -/
structure TkOk (t:Tk):Prop where
 kind:-10 <= t.kind /\ t.kind <= 10
 num:0 <= t.num /\ t.num <= 72057594037927936
 text:t.text.length <= 4000
 pl:t.pl <= 4000
/-- A slice of tokens that can be read in a world. -/
structure TksAt (w:World) (ao:Option Addr) (len:Nat) (l:List Tk):Prop where
 length:l.length = len
 short:len <= maxLen
 fits:∀ t ∈ l,TkOk t
 cells:0 < len -> ∃ b off,ao = some ⟨b,off,none⟩ /\ ∀ i t,l[i]? = some t -> w.cell? ⟨b,off + i * 4,none⟩ = some (I J t.kind) /\ w.cell? ⟨b,off + i * 4 + 1,none⟩ = some (I J t.num) /\ w.cell? ⟨b,off + i * 4 + 2,none⟩ = some (Ψ (bs t.text)) /\ w.cell? ⟨b,off + i * 4 + 3,none⟩ = some (I J (t.pl:Int))
theorem TksAt.below {w w':World} {ao:Option Addr} {len:Nat} {l:List Tk} (h:TksAt w ao len l) (hb:Below w.heap.size w w'):TksAt w' ao len l:=by
 refine ⟨h.length,h.short,h.fits,fun h0=>?_⟩
 obtain ⟨b,off,e,hc⟩:=h.cells h0
 refine ⟨b,off,e,fun i q hi=>?_⟩
 obtain ⟨h1,h2,h3,h4⟩:=hc i q hi
 refine ⟨?_,?_,?_,?_⟩
 ·rw [hb.cell (World.block_lt_of_cell? w _ h1)]; exact h1
 ·rw [hb.cell (World.block_lt_of_cell? w _ h2)]; exact h2
 ·rw [hb.cell (World.block_lt_of_cell? w _ h3)]; exact h3
 ·rw [hb.cell (World.block_lt_of_cell? w _ h4)]; exact h4
def rowCells (l:List Tk):List Value:=l.flatMap tkCells
theorem rowCells_length (l:List Tk):(rowCells l).length = l.length * 4:=by
 induction l with
 | nil=>rfl
 | cons q r ih=>simp only [rowCells,List.flatMap_cons,List.length_append,List.length_cons] at ih ⊢; rw [ih,tk_len]; omega
theorem rowCells_snoc (l:List Tk) (q:Tk):rowCells (l ++ [q]) = rowCells l ++ tkCells q:=by simp [rowCells]
theorem flat_get {α:Type} {f:α -> List Value} {s:Nat} (h:∀ a,(f a).length = s):∀ (l:List α) (i:Nat) (a:α) (j:Nat) (u:Value),l[i]? = some a -> (f a)[j]? = some u -> (l.flatMap f)[i * s + j]? = some u
 | [],i,a,j,u,hi,_=>by simp at hi
 | b :: r,0,a,j,u,hi,hj=>by
   simp at hi; subst hi
   have hlt:j < (f b).length:=(List.getElem?_eq_some_iff.1 hj).1
   rw [List.flatMap_cons,Nat.zero_mul,Nat.zero_add,List.getElem?_append_left hlt]; exact hj
 | b :: r,i + 1,a,j,u,hi,hj=>by
   have e:(i + 1) * s + j = s + (i * s + j):=by rw [Nat.add_mul,Nat.one_mul]; omega
   rw [List.flatMap_cons,List.getElem?_append_right (by rw [h b]; omega),h b,e,Nat.add_sub_cancel_left]
   exact flat_get h r i a j u (by simpa using hi) hj
theorem flat_set {α:Type} {f:α -> List Value} {s:Nat} (h:∀ a,(f a).length = s):∀ (l:List α) (i:Nat) (a b:α) (j:Nat) (u:Value),l[i]? = some a -> j < s -> (f a).set j u = f b -> (l.flatMap f).set (i * s + j) u = (l.set i b).flatMap f
 | [],i,a,b,j,u,hi,_,_=>by simp at hi
 | c :: r,0,a,b,j,u,hi,hj,he=>by
   simp at hi; subst hi
   rw [List.flatMap_cons,Nat.zero_mul,Nat.zero_add,List.set_append_left _ _ (by rw [h c]; exact hj),he]; rfl
 | c :: r,i + 1,a,b,j,u,hi,hj,he=>by
   have e:(i + 1) * s + j = s + (i * s + j):=by rw [Nat.add_mul,Nat.one_mul]; omega
   rw [List.flatMap_cons,List.set_append_right _ _ (by rw [h c]; omega),h c,e,Nat.add_sub_cancel_left,flat_set h r i a b j u (by simpa using hi) hj he]; rfl
theorem tk_oneCell (q:Tk):∀ u ∈ tkCells q,u.oneCell' = true:=by
 intro u hu
 simp [tkCells] at hu
 rcases hu with rfl | rfl | rfl | rfl <;> rfl
theorem owned_shape {w:World} {base:Nat} {e:TypeId} {size:Nat} {v:Value} {n:Nat} {xs:List Value} (h:w.ownsRow base e size v n xs):∃ ao cap,v = Γ ao n cap:=by
 rcases h.2 with ⟨rfl,rfl⟩ | ⟨g,cap,_,rfl,_⟩
 ·exact ⟨none,0,rfl⟩
 ·exact ⟨some ⟨g,0,none⟩,cap,rfl⟩
theorem lt_block {w:World} {g:Nat} {o:Obj} (h:w.heap[g]? = some o):g < w.heap.size:=(Array.getElem?_eq_some_iff.1 h).1
/-- A row stays owned where its block stays as it is. -/
theorem owned_of_block {w w':World} {base:Nat} {e:TypeId} {size:Nat} {v:Value} {n:Nat} {xs:List Value} (h:w.ownsRow base e size v n xs)
 (hk:∀ g cur,v.ownBlock = some g -> w.heap[g]? = some (.cells cur e (0,0)) -> w'.heap[g]? = w.heap[g]?):w'.ownsRow base e size v n xs:=by
 refine ⟨h.1,?_⟩
 rcases h.2 with hn | ⟨g,cap,cur,hv,hb,hg,rest⟩
 ·exact .inl hn
 ·exact .inr ⟨g,cap,cur,hv,hb,by rw [hk g cur (by rw [hv]; rfl) hg]; exact hg,rest⟩
theorem owned_setOther {w:World} {base:Nat} {e t:TypeId} {size:Nat} {v:Value} {n:Nat} {xs:List Value} (h:w.ownsRow base e size v n xs) {b i:Nat} {cs:Array Value} {f:Nat × Nat}
 (hb:w.heap[b]? = some (.cells cs t f)) (hne:e ≠ t) (u:Value):(w.setCell ⟨b,i,none⟩ u).ownsRow base e size v n xs:=
 owned_of_block h fun g cur _ hg=>Below.heap_setCell w _ u g (fun e'=>by
  have e'':g = b:=e'
  rw [e''] at hg; rw [hb] at hg; cases hg; exact hne rfl)
theorem owned_below {w w':World} {base:Nat} {e:TypeId} {size:Nat} {v:Value} {n:Nat} {xs:List Value} (h:w.ownsRow base e size v n xs) (hb:Below w.heap.size w w'):w'.ownsRow base e size v n xs:=
 owned_of_block h fun g _ _ hg=>hb.block g (lt_block hg)
theorem owned_set {w:World} {base:Nat} {e:TypeId} {size:Nat} {g n cap:Nat} {xs:List Value} (h:w.ownsRow base e size (Γ (some ⟨g,0,none⟩) n cap) n xs) (j:Nat) (u:Value) :
 (w.setCell ⟨g,j,none⟩ u).ownsRow base e size (Γ (some ⟨g,0,none⟩) n cap) n (xs.set j u):=by
 refine ⟨by simp [h.1],?_⟩
 rcases h.2 with ⟨hv,_⟩ | ⟨g',cap',cur,hv,hb,hg,h1,h2,h3,h4⟩
 ·cases hv
 ·cases hv
  exact .inr ⟨g,cap,cur.setIfInBounds j u,rfl,hb,heap_setCell_same w g j cur e u hg,h1,h2,by simp [h3],by simp [List.take_set,h4]⟩
theorem owned_cells {w:World} {base:Nat} {e:TypeId} {size:Nat} {g n cap:Nat} {xs:List Value} (h:w.ownsRow base e size (Γ (some ⟨g,0,none⟩) n cap) n xs) (j:Nat) (u:Value) (hj:xs[j]? = some u) :
 w.cell? ⟨g,j,none⟩ = some u /\ w.frozen? ⟨g,j,none⟩ = false:=by
 rcases h.2 with ⟨hv,_⟩ | ⟨g',cap',cur,hv,hb,hg,h1,h2,h3,h4⟩
 ·cases hv
 ·cases hv
  refine ⟨?_,frozen_of_row w g j cur e hg⟩
  rw [cell_of_row w g j cur e (0,0) hg]
  rw [<- h4] at hj
  have h5:j < (cur.toList.take (n * size)).length:=(List.getElem?_eq_some_iff.1 hj).1
  have h6:j < n * size:=by simp at h5; omega
  rw [List.getElem?_take_of_lt h6] at hj
  simpa using hj
theorem owned_tk {w:World} {base g n cap:Nat} {l:List Tk} (h:w.ownsRow base 124 4 (Γ (some ⟨g,0,none⟩) n cap) n (rowCells l)) {k:Nat} {t:Tk} (hk:l[k]? = some t) :
 w.cell? ⟨g,k * 4,none⟩ = some (I J t.kind) /\ w.cell? ⟨g,k * 4 + 1,none⟩ = some (I J t.num) /\ w.cell? ⟨g,k * 4 + 2,none⟩ = some (Ψ (bs t.text)) /\ w.cell? ⟨g,k * 4 + 3,none⟩ = some (I J (t.pl:Int)):=by
 have hc:∀ j u,(tkCells t)[j]? = some u -> w.cell? ⟨g,k * 4 + j,none⟩ = some u:=fun j u hu=>(owned_cells h _ _ (flat_get tk_len l k t j u hk hu)).1
 exact ⟨hc 0 _ rfl,hc 1 _ rfl,hc 2 _ rfl,hc 3 _ rfl⟩
theorem owned_tks {w:World} {base:Nat} {ao:Option Addr} {n cap:Nat} {l:List Tk} (h:w.ownsRow base 124 4 (Γ ao n cap) n (rowCells l)) (hf:∀ r ∈ l,TkOk r):TksAt w ao n l:=by
 have hl:l.length = n:=by have:=h.1; rw [rowCells_length] at this; omega
 rcases h.2 with ⟨hv,rfl⟩ | ⟨g,cap',cur,hv,hb,hg,h1,h2,h3,h4⟩
 ·exact ⟨hl,by decide,hf,fun h0=>absurd h0 (by omega)⟩
 ·cases hv
  refine ⟨hl,by omega,hf,fun _=>⟨g,0,rfl,fun i q hi=>?_⟩⟩
  simp only [Nat.zero_add]
  exact owned_tk h hi
theorem owned_some {w:World} {base:Nat} {v:Value} {n:Nat} {e:TypeId} {size:Nat} {xs:List Value} (h:w.ownsRow base e size v n xs) (hn:0 < n):∃ g cap,v = Γ (some ⟨g,0,none⟩) n cap /\ base <= g /\ n <= cap /\ n <= maxLen /\ g < w.heap.size:=by
 rcases h.2 with ⟨_,h0⟩ | ⟨g,cap,cur,hv,hb,hg,h1,h2,h3,h4⟩
 ·omega
 ·exact ⟨g,cap,hv,hb,h1,by omega,lt_block hg⟩
theorem owned_base {w:World} {b b':Nat} {e:TypeId} {size:Nat} {v:Value} {n:Nat} {xs:List Value} (h:w.ownsRow b e size v n xs) (hb:b' <= b):w.ownsRow b' e size v n xs:=by
 refine ⟨h.1,?_⟩
 rcases h.2 with hn | ⟨g,cap,cur,hv,h1,rest⟩
 ·exact .inl hn
 ·exact .inr ⟨g,cap,cur,hv,by omega,rest⟩
theorem owned_none_nil (w:World) (B:Nat):w.ownsRow B 124 4 (Γ none 0 0) ([]:List Tk).length (rowCells []):=World.ownsRow_nil _ _ _ _
theorem below_append {B n:Nat} {e:TypeId} {size:Nat} {v:Value} {xs:List Value} {w w3:World} (hown:w.ownsRow B e size v n xs) (hB:B <= w.heap.size) {o:Obj} (hg:(w.alloc o).grownBy w3 v.ownBlock):Below B w w3:=
 Below.grown ((Below.refl _ _).alloc hB o) hg (by simp; omega) (fun j hj=>(hown.lt _ hj).1)
theorem numGo_le:∀ (s:List UInt8) (n m:Nat),numGo n s = some m -> n <= maxC -> m <= maxC
 | [],n,m,h,hn=>by simp [numGo] at h; omega
 | c :: r,n,m,h,_=>by
   rw [numGo] at h
   split at h
   ·split at h
    ·cases h
    ·exact numGo_le r _ m h (by omega)
   ·cases h
theorem numO_le {s:List UInt8} {m:Nat} (h:numO s = some m):m <= maxC:=by
 unfold numO at h
 split at h
 ·cases h
 ·exact numGo_le s 0 m h (Nat.zero_le _)
theorem numB_le (s:List UInt8):numB s <= 72057594037927936:=by
 cases s with
 | nil=>simp [numB]
 | cons c r=>
   simp only [numB]
   split
   ·cases h:numO (runB (c :: r)) with
    | none=>simp
    | some m=>have:=numO_le h; unfold maxC at this; simpa using this
   ·omega
theorem kindB_range (s:List UInt8):0 <= kindB s /\ kindB s <= 6:=by
 cases s with
 | nil=>simp [kindB]
 | cons c r=>
   simp only [kindB]
   repeat' split
   all_goals omega
theorem textB_le {s:List UInt8} (hs:s ≠ []) (he:errB s = 0):(textB s).length <= s.length:=by
 cases s with
 | nil=>exact absurd rfl hs
 | cons c r=>
   simp only [textB]
   have h1:=runB_le (c :: r)
   have h2:=innerB_le r
   simp only [List.length_cons] at h1 ⊢
   split
   ·simp
   ·rename_i hd
    split
    ·omega
    ·rename_i hp
     split
     ·omega
     ·rename_i h34
      split
      ·simp
      ·rename_i hm
       simp only [errB,hd,hp,h34,hm] at he
       cases r with
       | nil=>simp at he
       | cons d r=>simp
theorem tkB_ok {s:List UInt8} {p:Nat} (h:p + s.length <= 4000) (hs:s ≠ []) (he:errB s = 0):TkOk (tkB s p):=by
 refine ⟨?_,?_,?_,?_⟩
 ·have:=kindB_range s; show -10 <= kindB s /\ kindB s <= 10; omega
 ·have:=numB_le s; show 0 <= ((numB s:Nat):Int) /\ ((numB s:Nat):Int) <= 72057594037927936; omega
 ·have:=textB_le hs he; show (textB s).length <= 4000; omega
 ·show p <= 4000; omega
theorem skip_add (s:List UInt8) (p n:Nat) (h:p + s.length <= 4000) (hn:n <= s.length):p + n + skipB (s.drop n) + (s.drop (n + skipB (s.drop n))).length <= 4000:=by
 have h1:=skipB_le (s.drop n)
 rw [List.length_drop] at h1 ⊢
 omega
theorem tok_all:∀ (f p:Nat) (s:List UInt8),p + s.length <= 4000 -> ∀ t ∈ (tokGo f p s).1,TkOk t
 | 0,p,s,_,t,ht=>by simp [tokGo] at ht
 | f + 1,p,s,h,t,ht=>by
   rw [tokGo] at ht
   split at ht
   ·cases ht
   ·rename_i hs
    split at ht
    ·cases ht
    ·rename_i he
     have he':errB s = 0:=by simpa using he
     rcases List.mem_cons.1 ht with rfl | ht
     ·exact tkB_ok h hs he'
     ·exact tok_all f _ _ (skip_add s p _ h (lenB_le hs he')) t ht
theorem tok_few:∀ (f p:Nat) (s:List UInt8),(tokGo f p s).1.length <= s.length
 | 0,p,s=>by simp [tokGo]
 | f + 1,p,s=>by
   rw [tokGo]
   split
   ·simp
   ·rename_i hs
    split
    ·simp
    ·rename_i he
     have he':errB s = 0:=by simpa using he
     have h1:=tok_few f (p + lenB s + skipB (s.drop (lenB s))) (s.drop (lenB s + skipB (s.drop (lenB s))))
     have h2:=lenB_pos hs
     have h3:=lenB_le hs he'
     rw [List.length_drop] at h1
     simp only [List.length_cons]
     omega
theorem scan_ok (S:List UInt8):∀ t ∈ (scanB S).1,TkOk t:=by
 intro t ht
 unfold scanB at ht
 split at ht
 ·cases ht
 ·rename_i hl
  unfold finB at ht
  split at ht
  ·simp only [List.mem_append,List.mem_singleton] at ht
   rcases ht with ht | rfl
   ·refine tok_all _ _ _ ?_ t ht
    rw [List.length_drop]
    have:=skipB_le S
    omega
   ·exact ⟨by simp [endTk],by simp [endTk],by simp [endTk],by simp [endTk]; omega⟩
  ·cases ht
theorem scan_few (S:List UInt8):(scanB S).1.length <= 4001:=by
 unfold scanB
 split
 ·simp
 ·rename_i hl
  unfold finB
  split
  ·have h:=tok_few (S.drop (skipB S)).length (skipB S) (S.drop (skipB S))
   simp only [List.length_append,List.length_singleton]
   have h2:(S.drop (skipB S)).length <= S.length:=by rw [List.length_drop]; omega
   unfold tokB
   omega
  ·simp
end Go.Proofs.YtlaodgdlkkmmeaaGreat
