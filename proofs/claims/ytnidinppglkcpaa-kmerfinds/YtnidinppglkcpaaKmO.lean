/-
  Lists of texts that are handed in.
-/
import Derived.Test.YtnidinppglkcpaaKmT
import Derived.SliceStrings
namespace Go.Proofs.Ytnidinppglkcpaa
open Go.RowKit Go.ChangeShapes

structure WdsIn (w : World) (ao : Option Addr) (n c : Nat) (l : List Wd) : Prop where
  at' : WdsAt w ao n l
  short : ∀ s ∈ l, s.length ≤ maxLen
  nil' : ao = none → n = 0 ∧ c = 0
theorem open_wds {H : Type} {enc : TypeId × Value → H} {W : World} {base : Nat} {spare : Nat → Bool} {held : Bool} {fuel : Nat} {cs : List Value} {x : DataW H × List MemPlace} (h : DataW.trod enc Try.prog W base spare held fuel 22 cs = some x) :
    ∃ (ao : Option Addr) (n c : Nat) (l : List Wd), cs = [.slice ao n c] ∧ WdsIn W ao n c l := by
  rcases open_strings Try.underlying22 Try.underlying9 (by kernel_rfl) h with ⟨rfl, _⟩ | ⟨a, len, cap, ss, rfl, hb, hl, hm, hlen, _, hcell, hshort⟩
  · exact ⟨none, 0, 0, [], rfl, WdsAt.nil _ _, by simp, fun _ => ⟨rfl, rfl⟩⟩
  · have hle : len ≤ ss.length := by rw [hlen]; split <;> omega
    refine ⟨some a, len, cap, (ss.take len).map fun s => s.data.toList, rfl, ⟨by simp; omega, by omega, fun h0 => ?_⟩, fun s hs => ?_, fun h => by cases h⟩
    · obtain ⟨b, off, spot⟩ := a
      have hspot : spot = none := by simpa [Addr.add] using World.cell?_spot (hcell 0 (by omega))
      subst hspot
      refine ⟨b, off, rfl, fun i hi => ?_⟩
      have := hcell i (by omega)
      rw [Go.WideShapes.add_plain] at this
      rw [this]
      have e : ((ss.take len).map fun s => s.data.toList).getD i [] = (ss.getD i ByteArray.empty).data.toList := by
        rw [List.getD, List.getElem?_map, List.getElem?_take_of_lt hi, List.getD, List.getElem?_eq_getElem (by omega)]; rfl
      rw [e, bs_of]
    · simp only [List.mem_map] at hs
      obtain ⟨s', hs', rfl⟩ := hs
      rw [size_toList]
      exact hshort s' (List.mem_of_mem_take hs')
end Go.Proofs.Ytnidinppglkcpaa
