/-
  A recurrence in a box; what a pass tells. Drop: how much is left, at most. Drop, Prune: what is left of a right recurrence is right.
-/
import Derived.Test.YtolehoibpnenlabPsN
import Derived.Test.YtolehoibpnenlabPsX
namespace Go.Proofs.Ytolehoibpnenlab
open Go.RowKit Go.Deep Go.Maps

/-- What is not longer than can be. -/
structure RcB (x : Rc) : Prop where
  defs : x.defs.length ≤ 4398046511104
  subst : x.subst.length ≤ 17592186044416
  states : x.states.length ≤ 4398046511104
  edges : ∀ s ∈ x.states, s.2.length ≤ 8796093022208
theorem right_rcB {x : Rc} (h : rightR x = true) : RcB x := by
  have h1 := (right_defs h).1
  have h2 := (right_subst h).1
  have h3 := (right_states h).1
  exact ⟨by omega, by omega, by omega, fun s hs => by have := right_edges h s hs; omega⟩
/-- A recurrence and an error. -/
def UPost (Y : Rc) (er : Int) (w : World) (e : Ending) (w' : World) : Prop := ∃ da dc sa sc ta tc, e = .returned (.tuple #[.agg (rcCells Y da Y.defs.length dc sa Y.subst.length sc ta Y.states.length tc), .int .i64 er]) ∧ Below w.heap.size w w' ∧ RcO w' w.heap.size Y da dc sa sc ta tc
def okX (ok : Bool) (X : Rc) : Rc := if ok then X else zeroX
def okE (ok : Bool) : Int := if ok then 0 else 120
theorem zero_rcO (w : World) (b : Nat) : RcO w b zeroX none 0 none 0 none 0 := ⟨none_row _ _ _ _, none_row _ _ _ _, ⟨[], none_row _ _ _ _, rfl, fun i r s hi => by simp at hi⟩⟩
theorem pass_u {ok : Bool} {X : Rc} {w : World} {e : Ending} {w' : World} (h : PassPost ok X w e w') : UPost (okX ok X) (okE ok) w e w' := by
  unfold PassPost at h
  cases ok with
  | true => simp only [if_true] at h; exact h
  | false =>
    simp only [Bool.false_eq_true, if_false] at h
    exact ⟨none, 0, none, 0, none, 0, h.1, h.2, zero_rcO _ _⟩
theorem zero_fit : Fit zeroX := ⟨fun d hd => by simp [zeroX] at hd, by simp [zeroX], by simp [zeroX], by simp [zeroX]⟩
theorem ok_fit {ok : Bool} {X : Rc} (h : ok = true → Fit X) : Fit (okX ok X) := by
  cases ok with
  | true => exact h rfl
  | false => exact zero_fit
theorem clamp_fit {x : Rc} (h : rightR x = true) (hf : ∀ d ∈ x.defs, InR d.num) : Fit (clampB x) := by
  obtain ⟨e1, e2, e3⟩ := clamp_defs x
  have h1 := (right_defs h).1
  have h2 := (right_subst h).1
  have h3 := (right_states h).1
  exact ⟨by rw [e1]; exact hf, by rw [e1]; omega, by rw [e2]; omega, by rw [e3]; omega⟩
theorem fold_fit {x : Rc} (h : rightR x = true) (_ : ∀ d ∈ x.defs, InR d.num) : Fit (foldB x (valsB x.defs).1) := by
  have hr := (fold_right h rfl).1
  have h1 := (right_defs hr).1
  have h2 := (right_subst hr).1
  have h3 := (right_states hr).1
  refine ⟨fun d hd => ?_, by omega, by omega, by omega⟩
  simp only [foldB, foldW, List.mem_map] at hd
  obtain ⟨v, hv, rfl⟩ := hd
  rw [(kept_rising x _).2, numsP] at hv
  obtain ⟨p, hp, rfl⟩ := List.mem_map.1 hv
  have h4 := (placesL_len x h).2 p hp
  have h5 := valsB_in x.defs _ (vAt_mem (vs := (valsB x.defs).1) (p := p) (by rw [(right_defs h).2]; omega))
  simp only [numD, InR]
  unfold maxV at h5
  omega
/-- A recurrence in a box. -/
structure Bx (W : World) (g : Nat) (Y : Rc) (da : Option Addr) (dc : Nat) (sa : Option Addr) (sc : Nat) (ta : Option Addr) (tc : Nat) : Prop where
  box : W.heap[g]? = some (.cells (rcCells Y da Y.defs.length dc sa Y.subst.length sc ta Y.states.length tc) 26 (0, 0))
  at' : RcAt W Y da Y.defs.length sa Y.subst.length ta Y.states.length
theorem Bx.next {W W2 : World} {g : Nat} {Y : Rc} {da : Option Addr} {dc : Nat} {sa : Option Addr} {sc : Nat} {ta : Option Addr} {tc : Nat} (h : Bx W g Y da dc sa sc ta tc) (hb : Below W.heap.size W W2) : Bx W2 g Y da dc sa sc ta tc :=
  ⟨by rw [hb.block _ (lt_block h.box)]; exact h.box, h.at'.below hb⟩
theorem Bx.new {W : World} {b : Nat} {Y : Rc} {da : Option Addr} {dc : Nat} {sa : Option Addr} {sc : Nat} {ta : Option Addr} {tc : Nat} (h : RcO W b Y da dc sa sc ta tc) (hf : Fit Y) : Bx (W.alloc (.cells (rcCells Y da Y.defs.length dc sa Y.subst.length sc ta Y.states.length tc) 26)) W.heap.size Y da dc sa sc ta tc :=
  ⟨heap_alloc_new W _, (h.below ((Below.refl _ _).alloc (Nat.le_refl _) _)).at hf⟩
end Go.Proofs.Ytolehoibpnenlab
namespace Go.Proofs.Ytolehoibpnenlab

theorem takeB_edges (g : Nat) (l : List St) (n : Nat) (h : ∀ s ∈ l, s.2.length ≤ n) : ∀ s ∈ takeB g l, s.2.length ≤ n := fun s hs => by
  rw [takeB, List.mem_map] at hs
  obtain ⟨t, ht, rfl⟩ := hs
  exact Nat.le_trans (woE_len _ _) (h t (List.mem_of_mem_eraseIdx ht))
theorem dropG_le (f : List Bool) : ∀ (k : Nat) (l : List St), (dropG f k l).length ≤ l.length
  | 0, _ => Nat.le_refl _
  | k + 1, l => by
    rw [dropG]
    refine Nat.le_trans (dropG_le f k _) ?_
    split
    · exact Nat.le_refl _
    · exact takeB_le k l
theorem dropG_edges (f : List Bool) (n : Nat) : ∀ (k : Nat) (l : List St), (∀ s ∈ l, s.2.length ≤ n) → ∀ s ∈ dropG f k l, s.2.length ≤ n
  | 0, _, h => h
  | k + 1, l, h => by
    rw [dropG]
    refine dropG_edges f n k _ ?_
    split
    · exact h
    · exact takeB_edges k l n h
theorem drop_fit {x : Rc} (h : rightR x = true) (hf : ∀ d ∈ x.defs, InR d.num) : Fit (dropB x) := by
  have h1 := (right_defs h).1
  have h2 := (right_subst h).1
  have h3 := (right_states h).1
  have h4 := dropG_le (foundB x) x.states.length x.states
  exact ⟨hf, by show x.defs.length ≤ _; omega, by show x.subst.length ≤ _; omega, by show (dropG _ _ _).length ≤ _; omega⟩
theorem drop_edges {x : Rc} (h : rightR x = true) : ∀ s ∈ (dropB x).states, s.2.length ≤ 100 := dropG_edges _ 100 _ _ (right_edges h)
end Go.Proofs.Ytolehoibpnenlab
namespace Go.Proofs.Ytolehoibpnenlab

theorem edges_low {ns nd a b : Int} (h : a ≤ b) : ∀ {l : List (Int × Int)}, edgesB ns nd b l = true → edgesB ns nd a l = true
  | [], _ => rfl
  | e :: r, hl => by
    simp only [edgesB, Bool.and_eq_true, inI_iff] at hl ⊢
    exact ⟨⟨⟨by omega, hl.1.1.2⟩, hl.1.2⟩, hl.2⟩
theorem edges_wo {ns nd g : Int} (hg : g ≤ ns - 1) : ∀ (l : List (Int × Int)) (least : Int), edgesB ns nd least l = true → edgesB (ns - 1) nd (if g < least then least - 1 else least) (woE g l) = true
  | [], _, _ => rfl
  | e :: r, least, h => by
    simp only [edgesB, Bool.and_eq_true, inI_iff] at h
    obtain ⟨⟨⟨h1, h2⟩, h3⟩, h4⟩ := h
    have ih := edges_wo hg r _ h4
    by_cases he : e.1 = g
    · have e1 : woE g (e :: r) = woE g r := by simp [woE, he]
      rw [e1]
      refine edges_low ?_ ih
      rw [if_neg (by omega), if_pos (by omega)]
      omega
    · have e1 : woE g (e :: r) = (if g < e.1 then e.1 - 1 else e.1, e.2) :: woE g r := by simp [woE, he]
      rw [e1]
      simp only [edgesB, Bool.and_eq_true, inI_iff]
      refine ⟨⟨⟨?_, ?_⟩, h3⟩, ?_⟩
      · split <;> split <;> omega
      · split <;> omega
      · by_cases h5 : g < e.1
        · rw [if_pos (by omega)] at ih
          rw [if_pos h5]
          rw [show e.1 - 1 + 1 = e.1 + 1 - 1 by omega]
          exact ih
        · rw [if_neg (by omega)] at ih
          rw [if_neg h5]
          exact ih
/-- States that a right recurrence may have. -/
def SOk (nd : Int) (l : List St) : Prop := l.length ≤ 9 ∧ ∀ s ∈ l, stateB l.length nd s = true
theorem takeB_ok {nd : Int} {l : List St} (h : SOk nd l) {g : Nat} (hg : g < l.length) : SOk nd (takeB g l) := by
  have hl := takeB_len g l hg
  refine ⟨by have := h.1; omega, fun s hs => ?_⟩
  rw [takeB, List.mem_map] at hs
  obtain ⟨t, ht, rfl⟩ := hs
  have h1 := h.2 t (List.mem_of_mem_eraseIdx ht)
  simp only [stateB, Bool.and_eq_true] at h1 ⊢
  refine ⟨h1.1, ?_⟩
  have h2 := edges_wo (g := (g : Int)) (by omega) t.2 (-1) h1.2
  rw [if_neg (by omega)] at h2
  rw [show ((takeB g l).length : Int) = (l.length : Int) - 1 by omega]
  exact h2
theorem right_sok {x : Rc} (h : rightR x = true) : SOk x.defs.length x.states := right_states h
theorem right_with {x : Rc} (h : rightR x = true) {l : List St} (hl : SOk x.defs.length l) : rightR { x with states := l } = true := by
  simp only [rightR, substR, endsR, statesR, bandR, Bool.and_eq_true] at h ⊢
  refine ⟨h.1, h.2.1, h.2.2.1, h.2.2.2.1, ?_, ?_⟩
  · exact decide_eq_true hl.1
  · exact List.all_eq_true.2 hl.2
theorem dropG_ok {nd : Int} (f : List Bool) : ∀ (k : Nat) (l : List St), k ≤ l.length → SOk nd l → SOk nd (dropG f k l)
  | 0, _, _, h => h
  | k + 1, l, hk, h => by
    rw [dropG]
    split
    · exact dropG_ok f k l (by omega) h
    · exact dropG_ok f k _ (by rw [takeB_len k l (by omega)]; omega) (takeB_ok h (by omega))
theorem drop_right {x : Rc} (h : rightR x = true) : rightR (dropB x) = true := right_with h (dropG_ok _ _ _ (Nat.le_refl _) (right_sok h))
theorem pruneG_ok {nd : Int} (vs : List Int) : ∀ (k : Nat) (l : List St), k ≤ l.length → SOk nd l → SOk nd (pruneG vs k l)
  | 0, _, _, h => h
  | k + 1, l, hk, h => by
    rw [pruneG]
    split
    · exact pruneG_ok vs k _ (by rw [takeB_len k l (by omega)]; omega) (takeB_ok h (by omega))
    · exact pruneG_ok vs k l (by omega) h
theorem prune_right {x : Rc} {vs : List Int} (h : rightR x = true) : rightR (pruneB x vs) = true := right_with h (pruneG_ok _ _ _ (Nat.le_refl _) (right_sok h))
end Go.Proofs.Ytolehoibpnenlab
