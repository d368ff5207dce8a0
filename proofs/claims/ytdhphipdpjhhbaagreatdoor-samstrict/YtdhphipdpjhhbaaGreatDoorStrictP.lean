/-
  What is read of a text is written as just that text, the letters of its references being any.
-/
import Derived.Test.YtdhphipdpjhhbaaGreatDoorFilePlain
namespace Go.Proofs.YtdhphipdpjhhbaaGreatDoor

/-- A sequence of a name and so many letters. -/
def seqOf (f : Rf) : Sqp := (f.1, [], List.replicate f.2.toNat 65)
theorem seqOf_ok {x : Rf} (hx : refOk x) : seqOkB (seqOf x) = true := by
  obtain ⟨h1, h2, h3⟩ := hx
  have hl : ∀ n, letsB (List.replicate n 65) = true := fun n => by
    rw [letsB, List.all_eq_true]
    intro c hc
    rw [List.eq_of_mem_replicate hc]; decide
  have hn : noteB [] = true := by decide
  simp only [seqOkB, seqOf, hn, basesB, hl, h1, Bool.true_and, Bool.and_true, Bool.and_eq_true, decide_eq_true_eq, List.length_replicate]
  refine ⟨?_, by omega⟩
  refine decide_eq_true (List.length_pos_iff.1 ?_)
  rw [List.length_replicate]
  omega
theorem know_made : ∀ (m done : List Rf), (∀ x ∈ m, refOk x) → ((done ++ m).map (·.1)).Nodup → knowGo done (m.map seqOf) = some (done ++ m)
  | [], done, _, _ => by simp [knowGo]
  | x :: m, done, h, hn => by
    have hx := h x (by simp)
    have hf : findB done x.1 = none := findB_none.2 (fun hm => by
      rw [List.map_append, List.nodup_append] at hn
      exact hn.2.2 x.1 hm x.1 (by simp) rfl)
    have hr : refOf (seqOf x) = x := by
      have := hx.2.1
      refine Prod.ext rfl ?_
      show ((List.replicate x.2.toNat (65 : UInt8)).length : Int) = x.2
      rw [List.length_replicate]; omega
    have hg : ¬ ((findB done (seqOf x).1).isSome = true ∨ seqOkB (seqOf x) = false) := by
      rw [seqOf_ok hx, show (seqOf x).1 = x.1 from rfl, hf]; simp
    rw [List.map_cons, knowGo, if_neg hg, hr, know_made m (done ++ [x]) (fun y hy => h y (by simp [hy])) (by simpa using hn)]
    simp
theorem parse_print {t : List UInt8} {f : Fl} (h : parseF t = .inl f) (ht : t.length ≤ 1048576) : printF (f.1.map seqOf) f.2 = (t, 0) := by
  obtain ⟨hok, he⟩ := parse_ok h
  have h1 := hok.few
  have h2 := hok.some
  have hk : knowB (f.1.map seqOf) = some f.1 := by
    have := know_made f.1 [] hok.refs (by simpa using hok.apart)
    simpa [knowB] using this
  have ha : allFit f.1 f.2 = true := by
    rw [allFit, List.all_eq_true]
    intro r hr
    obtain ⟨a, _, c⟩ := hok.recs r hr
    simp [a, c]
  rw [printF, if_neg (by rw [List.length_map]; omega), hk]
  simp only [ha]
  rw [if_neg (by decide), show ((f.1, f.2) : Fl) = f from rfl, he, if_neg (by omega)]
end Go.Proofs.YtdhphipdpjhhbaaGreatDoor
