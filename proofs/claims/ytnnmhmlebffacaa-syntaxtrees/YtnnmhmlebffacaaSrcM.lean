/-
  Lists of items in memory.
-/
import Derived.Test.YtnnmhmlebffacaaItC
namespace Go.Proofs.Ytnnmhmlebffacaa
open Go.RowKit Go.Deep

def itCells (i : It) (ka : Option Addr) (kn kc : Nat) : List Value := [.int .i64 i.kind, .string (bs i.name), .slice ka kn kc, .int .i64 i.pl]
def ItsAt (o : Bool) (S : Nat → Prop) (w : World) : List It → Option Addr → Nat → Prop
  | [], _, n => n = 0
  | i :: r, ao, n => ∃ g off ka kn kc m, n = m + 1 ∧ ao = some ⟨g, off, none⟩ ∧ S g ∧ (o = true → off % 4 = 0 ∧ ∃ cs, w.heap[g]? = some (.cells cs 42 (0, 0))) ∧ ItOk i ∧ kn ≤ maxLen ∧
      CellsAt w g off (itCells i ka kn kc) ∧ FoAt o S w i.args ka kn ∧ ItsAt o S w r (some ⟨g, off + 4, none⟩) m
theorem itsAt_len {o : Bool} {S : Nat → Prop} {w : World} : ∀ {l : List It} {ao : Option Addr} {n : Nat}, ItsAt o S w l ao n → n = l.length
  | [], _, _, h => h
  | _ :: r, _, _, h => by
    obtain ⟨g, off, ka, kn, kc, m, hn, _, _, _, _, _, _, _, hr⟩ := h
    rw [hn, itsAt_len hr]; rfl
theorem itsAt_keep {o : Bool} {S : Nat → Prop} {w w' : World} (hk : ∀ g, g < w.heap.size → S g → w'.heap[g]? = w.heap[g]?) : ∀ {l : List It} {ao : Option Addr} {n : Nat}, ItsAt o S w l ao n → ItsAt o S w' l ao n
  | [], _, _, h => h
  | i :: r, ao, n, hh => by
    obtain ⟨g, off, ka, kn, kc, m, hn, ha, hB, ho, hok, hkn, hc, hk1, hr⟩ := hh
    have hlt : g < w.heap.size := World.block_lt_of_cell? w _ (hc 0 _ rfl)
    have he := hk g hlt hB
    exact ⟨g, off, ka, kn, kc, m, hn, ha, hB, fun e => ⟨(ho e).1, by rw [he]; exact (ho e).2⟩, hok, hkn, hc.of_heap he, foAt_keep hk hk1, itsAt_keep hk hr⟩
theorem ItsAt.below {o : Bool} {S : Nat → Prop} {w w' : World} {l : List It} {ao : Option Addr} {n : Nat} (h : ItsAt o S w l ao n) (hk : Below w.heap.size w w') : ItsAt o S w' l ao n :=
  itsAt_keep (fun g hg _ => hk.block g hg) h
theorem ItsAt.base {o : Bool} {S S' : Nat → Prop} {w : World} (hB : ∀ g, g < w.heap.size → S g → S' g) : ∀ {l : List It} {ao : Option Addr} {n : Nat}, ItsAt o S w l ao n → ItsAt o S' w l ao n
  | [], _, _, h => h
  | i :: r, ao, n, hh => by
    obtain ⟨g, off, ka, kn, kc, m, hn, ha, hg, ho, hok, hkn, hc, hk1, hr⟩ := hh
    exact ⟨g, off, ka, kn, kc, m, hn, ha, hB g (World.block_lt_of_cell? w _ (hc 0 _ rfl)) hg, ho, hok, hkn, hc, hk1.base hB, ItsAt.base hB hr⟩
theorem ItsAt.loose {S : Nat → Prop} {w : World} : ∀ {l : List It} {ao : Option Addr} {n : Nat}, ItsAt true S w l ao n → ItsAt false S w l ao n
  | [], _, _, h => h
  | i :: r, ao, n, hh => by
    obtain ⟨g, off, ka, kn, kc, m, hn, ha, hg, ho, hok, hkn, hc, hk1, hr⟩ := hh
    exact ⟨g, off, ka, kn, kc, m, hn, ha, hg, (fun e => by cases e), hok, hkn, hc, hk1.loose, ItsAt.loose hr⟩
abbrev Is := It × Option Addr × Nat × Nat
def isCells (x : Is) : List Value := itCells x.1 x.2.1 x.2.2.1 x.2.2.2
theorem is_len (x : Is) : (isCells x).length = 4 := rfl
theorem is_one (x : Is) : ∀ u ∈ isCells x, u.oneCell' = true := by
  intro u hu
  simp [isCells, itCells] at hu
  rcases hu with rfl | rfl | rfl | rfl <;> rfl
def iRow (l : List Is) : List Value := l.flatMap isCells
theorem iRow_length (l : List Is) : (iRow l).length = l.length * 4 := by
  induction l with
  | nil => rfl
  | cons q r ih => simp only [iRow, List.flatMap_cons, List.length_append, List.length_cons] at ih ⊢; rw [ih, is_len]; omega
theorem iRow_snoc (l : List Is) (q : Is) : iRow (l ++ [q]) = iRow l ++ isCells q := by simp [iRow]
/-- An item with its expressions in memory. -/
structure IsAt (o : Bool) (S : Nat → Prop) (w : World) (x : Is) : Prop where
  ok : ItOk x.1
  few : x.2.2.1 ≤ maxLen
  fo : FoAt o S w x.1.args x.2.1 x.2.2.1
theorem IsAt.kp {o : Bool} {b : Nat} {S : Nat → Prop} {w w' : World} {x : Is} (h : IsAt o S w x) (hk : Kp b w w') (hB : ¬ S b) : IsAt o S w' x := ⟨h.ok, h.few, h.fo.kp hk hB⟩
theorem IsAt.base {o : Bool} {S S' : Nat → Prop} {w : World} {x : Is} (h : IsAt o S w x) (hB : ∀ g, g < w.heap.size → S g → S' g) : IsAt o S' w x := ⟨h.ok, h.few, h.fo.base hB⟩
theorem IsAt.below {o : Bool} {S : Nat → Prop} {w w' : World} {x : Is} (h : IsAt o S w x) (hk : Below w.heap.size w w') : IsAt o S w' x := ⟨h.ok, h.few, h.fo.below hk⟩
theorem IsAt.keep {o : Bool} {S : Nat → Prop} {w w' : World} {x : Is} (h : IsAt o S w x) (hk : ∀ g, g < w.heap.size → S g → w'.heap[g]? = w.heap[g]?) : IsAt o S w' x := ⟨h.ok, h.few, foAt_keep hk h.fo⟩
theorem itsAt_row {o : Bool} {S : Nat → Prop} {g : Nat} {w : World} (hB : S g) {cs : Array Value} (hg : w.heap[g]? = some (.cells cs 42 (0, 0))) : ∀ (l : List Is) (off : Nat), (o = true → off % 4 = 0) → (∀ i u, (iRow l)[i]? = some u → cs[off + i]? = some u) →
    (∀ x ∈ l, IsAt o S w x) → ItsAt o S w (l.map (·.1)) (some ⟨g, off, none⟩) l.length
  | [], off, _, _, _ => rfl
  | x :: r, off, h5, hc, hx => by
    have hx0 := hx x (by simp)
    refine ⟨g, off, x.2.1, x.2.2.1, x.2.2.2, r.length, rfl, rfl, hB, fun e => ⟨h5 e, cs, hg⟩, hx0.ok, hx0.few, fun i u hi => ?_, hx0.fo, ?_⟩
    · rw [cell_of_row w g (off + i) cs 42 (0, 0) hg]
      have hi' : (isCells x)[i]? = some u := hi
      exact hc i u (by rw [iRow, List.flatMap_cons, List.getElem?_append_left (List.getElem?_eq_some_iff.1 hi').1]; exact hi')
    · refine itsAt_row hB hg r (off + 4) (fun e => by have := h5 e; omega) (fun i u hi => ?_) fun y hy => hx y (by simp [hy])
      have := hc (4 + i) u (by rw [iRow, List.flatMap_cons, List.getElem?_append_right (by rw [is_len]; omega), is_len, Nat.add_sub_cancel_left]; exact hi)
      rw [show off + 4 + i = off + (4 + i) by omega]; exact this
theorem itsAt_owned {o : Bool} {S : Nat → Prop} {B : Nat} {w : World} {ao : Option Addr} {n cap : Nat} {l : List Is} (hS : ∀ g, some g = (Value.slice ao n cap).ownBlock → B ≤ g → S g) (h : w.ownsRow B 42 4 (.slice ao n cap) n (iRow l)) (hx : ∀ x ∈ l, IsAt o S w x) : ItsAt o S w (l.map (·.1)) ao n ∧ n = l.length := by
  have hl : n = l.length := by have := h.1; rw [iRow_length] at this; omega
  refine ⟨?_, hl⟩
  rcases h.2 with ⟨hv, h0⟩ | ⟨g, cap', cur, hv, hb, hg, h1, h2, h3, h4⟩
  · subst h0
    have : l = [] := List.eq_nil_of_length_eq_zero hl.symm
    subst this; rfl
  · cases hv
    rw [hl]
    refine itsAt_row (hS g rfl hb) hg l 0 (fun _ => rfl) (fun i u hi => ?_) hx
    rw [← h4] at hi
    have h5 : i < (cur.toList.take (n * 4)).length := (List.getElem?_eq_some_iff.1 hi).1
    have h6 : i < n * 4 := by simp at h5; omega
    rw [List.getElem?_take_of_lt h6] at hi
    simpa using hi
structure SL (b : Nat) (ta : Option Addr) (tn tc : Nat) (T : List Tk) (w : World) (l : List Tk) (f : Int × Int) (xs : List Is) (v : Value) (n : Nat) (W : World) : Prop where
  p : PAt b ta tn tc T l f W
  kp : Kp b w W
  nb : b < w.heap.size
  own : W.ownsRow w.heap.size 42 4 v n (iRow xs)
  ex : ∀ x ∈ xs, IsAt true (fun g => w.heap.size ≤ g ∧ some g ≠ v.ownBlock) W x
section
variable {b : Nat} {ta : Option Addr} {tn tc : Nat} {T : List Tk} {w : World} {l : List Tk} {f : Int × Int} {xs : List Is} {v : Value} {n : Nat} {W W' : World}
theorem SL.go (h : SL b ta tn tc T w l f xs v n W) (hk : Kp b W W') {l' : List Tk} {f' : Int × Int} (hp : PAt b ta tn tc T l' f' W') : SL b ta tn tc T w l' f' xs v n W' :=
  ⟨hp, h.kp.trans hk, h.nb, owned_of_block h.own fun g cur hg hc => hk.block g (lt_block hc) (by have := (h.own.lt g hg).1; have := h.nb; omega), fun x hx => (h.ex x hx).kp hk (fun hb => by have := hb.1; have := h.nb; omega)⟩
theorem SL.next (h : SL b ta tn tc T w l f xs v n W) (hk : Below W.heap.size W W') : SL b ta tn tc T w l f xs v n W' := h.go (Kp.of_below hk) (h.p.below hk)
theorem SL.len (h : SL b ta tn tc T w l f xs v n W) : n = xs.length := by have := h.own.1; rw [iRow_length] at this; omega
theorem SL.add (h : SL b ta tn tc T w l f xs v n W) {x : Is} (hx : IsAt true (fun g => w.heap.size ≤ g ∧ some g ≠ v.ownBlock) W x) {v' : Value} {w4 : World}
    (ho : w4.ownsRow w.heap.size 42 4 v' (n + 1) (iRow xs ++ isCells x)) (hg : W.grownBy w4 v.ownBlock) (hf : ∀ g, v'.ownBlock = some g → some g = v.ownBlock ∨ W.heap.size ≤ g) : SL b ta tn tc T w l f (xs ++ [x]) v' (n + 1) w4 := by
  have hnb := h.nb
  have hkeep : ∀ g, g < W.heap.size → (w.heap.size ≤ g ∧ some g ≠ v.ownBlock) → w4.heap[g]? = W.heap[g]? := fun g h1 h2 => hg.block g h1 h2.2
  have hbase : ∀ g, g < W.heap.size → (w.heap.size ≤ g ∧ some g ≠ v.ownBlock) → (w.heap.size ≤ g ∧ some g ≠ v'.ownBlock) := fun g h1 h2 => by
    refine ⟨h2.1, fun e => ?_⟩
    rcases hf g e.symm with h3 | h3
    · exact h2.2 h3
    · omega
  have hold : ∀ g, g < w.heap.size → w4.heap[g]? = W.heap[g]? := fun g hgw => hg.block g (Nat.lt_of_lt_of_le hgw h.kp.size) (fun e => by have := (h.own.lt g e.symm).1; omega)
  obtain ⟨kk, q1, q2, q3⟩ := h.p.block
  refine ⟨⟨⟨kk, q1, q2, by rw [hold b hnb]; exact q3⟩, ?_, h.p.low, h.p.last, h.p.few⟩, h.kp.grown hg (fun k hk => (h.own.lt k hk).1), hnb, by rw [iRow_snoc]; exact ho, fun y hy => ?_⟩
  · refine h.p.toks.keep fun a ha => hold a.block ?_
    have := h.p.low a ha
    omega
  · have hE : IsAt true (fun g => w.heap.size ≤ g ∧ some g ≠ v.ownBlock) W y := by
      rcases List.mem_append.1 hy with hy | hy
      · exact h.ex y hy
      · rw [List.mem_singleton.1 hy]; exact hx
    have h1 : IsAt true (fun g => (w.heap.size ≤ g ∧ some g ≠ v.ownBlock) ∧ (w.heap.size ≤ g ∧ some g ≠ v'.ownBlock)) W y := hE.base fun g h1 h2 => ⟨h2, hbase g h1 h2⟩
    exact (h1.keep fun g h2 h3 => hkeep g h2 h3.1).base fun g _ h2 => h2.2
theorem SL.start (h : PAt b ta tn tc T l f w) : SL b ta tn tc T w l f [] (.slice none 0 0) 0 w := ⟨h, Kp.refl _ _, h.lt, World.ownsRow_nil _ _ _ _, fun x hx => by cases hx⟩
def VIts (B : Nat) (its : List It) (v : Value) (w : World) : Prop := ∃ ao n c, v = .slice ao n c ∧ n ≤ 4002 ∧ ItsAt true (fun g => B ≤ g) w its ao n
theorem SL.done (h : SL b ta tn tc T w l f xs v n W) (hn : n ≤ 4002) : VIts w.heap.size (xs.map (·.1)) v W := by
  obtain ⟨ao, cap, rfl⟩ := owned_shape h.own
  exact ⟨ao, n, cap, rfl, hn, (itsAt_owned (fun g _ hg => hg) h.own fun x hx => (h.ex x hx).base fun g _ hg => hg.1).1⟩
end
end Go.Proofs.Ytnnmhmlebffacaa
