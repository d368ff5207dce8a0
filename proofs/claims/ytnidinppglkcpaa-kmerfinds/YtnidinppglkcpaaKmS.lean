/-
  What the laws share.
-/
import Derived.Test.YtnidinppglkcpaaKmT
namespace Go.Proofs.Ytnidinppglkcpaa
open Go.RowKit Go.Maps

theorem rnew_ok {k : Int} {refs : List Wd} {w w' : World} {e : Ending} (h : RNewPost k refs w e w') (h0 : refB k refs = 0) : ∃ y g, e = .returned (.tuple #[.pointer (some ⟨y, 0, none⟩), .int .i64 0]) ∧ RxAt w' y g k refs ∧ Below w.heap.size w w' := by
  rcases h.2 with ⟨h1, _⟩ | ⟨_, y, g, he, hx⟩
  · exact absurd h0 h1
  · exact ⟨y, g, he, hx, h.1⟩
theorem rnew_no {k : Int} {refs : List Wd} {w w' : World} {e : Ending} {E : Int} (h : RNewPost k refs w e w') (h0 : refB k refs = E) (hE : E ≠ 0) : e = .returned (.tuple #[.pointer none, .int .i64 E]) ∧ Below w.heap.size w w' := by
  rcases h.2 with ⟨_, he⟩ | ⟨h1, _⟩
  · exact ⟨by rw [he, h0], h.1⟩
  · exact absurd (h0.symm.trans h1) hE
theorem new1_calls (k : Int) (S : Wd) (hS : S.length ≤ maxLen) (W : World) : Calls Try.prog 9 #[.int .i64 k, .slice (some ⟨W.heap.size, 0, none⟩) 1 1] (W.alloc (.cells #[.string (bs S)] 9)) (NewPost k [S] (W.alloc (.cells #[.string (bs S)] 9))) :=
  new_calls k [S] (some ⟨W.heap.size, 0, none⟩) 1 1 _ (wds_new (zs := [S]) (heap_alloc_new W _) rfl (by simp [maxLen])) (by simpa using hS)
theorem rnew1_calls (k : Int) (S : Wd) (hS : S.length ≤ maxLen) (W : World) : Calls Try.prog 10 #[.int .i64 k, .slice (some ⟨W.heap.size, 0, none⟩) 1 1] (W.alloc (.cells #[.string (bs S)] 9)) (RNewPost k [S] (W.alloc (.cells #[.string (bs S)] 9))) :=
  rnew_calls k [S] (some ⟨W.heap.size, 0, none⟩) 1 1 _ (wds_new (zs := [S]) (heap_alloc_new W _) rfl (by simp [maxLen])) (by simpa using hS) (by intro h; cases h)
theorem find_ok {w : World} {base x mb : Nat} {k : Int} {L : List Oc} {f : Wd → Value} (h : IxAt w base x mb k L f) (s : Wd) (hk : (s.length : Int) = k) (hk2 : k ≤ 16) (hL : L.length < 2147483648) :
    Calls Try.prog 18 #[.pointer (some ⟨x, 0, none⟩), .string (bs s)] w fun e w' => ∃ v, e = .returned (.tuple #[v, .int .i64 0]) ∧ w'.ownsRow w.heap.size 46 2 v (plsOf L s).length (plVals (plsOf L s)) ∧ Below w.heap.size w w' := by
  refine (find_calls h s (by unfold maxLen; omega) hL).mono ?_
  rintro e w' ⟨v, rfl, ho, hb⟩
  rw [if_pos hk] at ho ⊢
  exact ⟨v, rfl, ho, hb⟩
theorem wd_len {k : Int} {refs : List Wd} (h0 : refB k refs = 0) {wd : Wd} (h : wd ∈ wdsOf (occ k.toNat 0 refs)) : (wd.length : Int) = k := by
  obtain ⟨o, ho, rfl⟩ := (wds_mem _ _).1 h
  have := occ_word_len ho
  have := ref_ok h0
  omega
theorem occ_16 {k : Int} {refs : List Wd} (h0 : refB k refs = 0) : ∀ o ∈ occ k.toNat 0 refs, o.1.length ≤ 16 := by
  intro o ho
  have := occ_word_len ho
  have := ref_ok h0
  omega
theorem cat_bs (A S : Wd) : bs A ++ bs S = bs (A ++ S) := by
  refine byte_ext ?_
  simp [bs]
theorem pls_row {w : World} {base n : Nat} {v : Value} {l : List Pl} (h : w.ownsRow base 46 2 v l.length (plVals l)) (hn : l.length = n) : ∃ ao cap, v = .slice ao n cap ∧ PlsAt w ao n l := by
  subst hn
  obtain ⟨ao, cap, rfl⟩ := owned_shape h
  exact ⟨ao, cap, rfl, pls_owned h⟩
theorem wds_row {w : World} {base : Nat} {v : Value} {l : List Wd} (h : w.ownsRow base 9 1 v l.length (wdVals l)) : ∃ ao cap, v = .slice ao l.length cap ∧ WdsAt w ao l.length l := by
  obtain ⟨ao, cap, rfl⟩ := owned_shape h
  exact ⟨ao, cap, rfl, wds_owned h⟩
end Go.Proofs.Ytnidinppglkcpaa
