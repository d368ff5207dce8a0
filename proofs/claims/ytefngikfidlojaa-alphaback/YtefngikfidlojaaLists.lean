/-
  What the laws lean on: alpha.Encode and helixref01.Encode with their answers named, and lists of the call's own through later calls.
-/
import Derived.Test.YtefngikfidlojaaSame
import Derived.OpenShut
namespace Go.Proofs.Ytefngikfidlojaa
open Go.RowKit

theorem encB_short (l s : List UInt8) : (encB l s).1.length ≤ 65536 := by
  unfold encB
  split
  · simp
  · split
    · simp
    · split
      · simp
      · simp; omega

theorem encodeAt_calls (l s : ByteArray) (w : World) (hl : l.size ≤ maxLen) (hs : s.size ≤ maxLen) (ns : List Int) (pl : Nat) (er : Int) (he : encB l.data.toList s.data.toList = (ns, pl, er)) :
    Calls Try.prog 16 #[.string l, .string s] w fun e w' => ∃ vo cap, e = .returned (.tuple #[.slice vo ns.length cap, .int .i64 (pl : Int), .int .i64 er]) ∧ w'.ownsRow w.heap.size 3 1 (.slice vo ns.length cap) ns.length (ns.map (Value.int .i64)) ∧ Below w.heap.size w w' := by
  refine (encode_calls l s w hl hs).mono ?_
  rintro e w' ⟨v, h1, h2, h3⟩
  rw [he] at h1 h2
  obtain ⟨vo, cap, rfl⟩ := owned_shape h2
  exact ⟨vo, cap, h1, h2, h3⟩
theorem encodeRefAt_calls (l s : ByteArray) (w : World) (hl : l.size ≤ maxLen) (hs : s.size ≤ maxLen) (ns : List Int) (pl : Nat) (er : Int) (he : encB l.data.toList s.data.toList = (ns, pl, er)) :
    Calls Try.prog 17 #[.string l, .string s] w fun e w' => ∃ vo cap, e = .returned (.tuple #[.slice vo ns.length cap, .int .i64 (pl : Int), .int .i64 er]) ∧ w'.ownsRow w.heap.size 3 1 (.slice vo ns.length cap) ns.length (ns.map (Value.int .i64)) ∧ Below w.heap.size w w' := by
  refine (encodeRef_calls l s w hl hs).mono ?_
  rintro e w' ⟨v, h1, h2, h3⟩
  rw [he] at h1 h2
  obtain ⟨vo, cap, rfl⟩ := owned_shape h2
  exact ⟨vo, cap, h1, h2, h3⟩

theorem owned_below {w w' : World} {base B : Nat} {e : TypeId} {size : Nat} {v : Value} {n : Nat} {xs : List Value} (h : w.ownsRow base e size v n xs) (hb : Below B w w') (hB : ∀ k, v.ownBlock = some k → k < B) : w'.ownsRow base e size v n xs := by
  refine ⟨h.1, ?_⟩
  rcases h.2 with hn | ⟨g, cap, cur, rfl, hbg, hgg, rest⟩
  · exact .inl hn
  · refine .inr ⟨g, cap, cur, rfl, hbg, ?_, rest⟩
    rw [hb.block g (hB g rfl)]
    exact hgg
theorem owned_below_all {w w' : World} {base : Nat} {e : TypeId} {size : Nat} {v : Value} {n : Nat} {xs : List Value} (h : w.ownsRow base e size v n xs) (hb : Below w.heap.size w w') : w'.ownsRow base e size v n xs :=
  owned_below h hb (fun k hk => (h.lt k hk).2)
theorem intsAt_owned {w : World} {base : Nat} {ao : Option Addr} {cap : Nat} {zs : List Int} (h : w.ownsRow base 3 1 (.slice ao zs.length cap) zs.length (zs.map (Value.int .i64))) : IntsAt w ao zs.length zs := by
  obtain ⟨ao', cap', e, hi⟩ := intsAt_of_owned h
  cases e
  exact hi

theorem intsAt_nil (w : World) : IntsAt w none 0 [] := ⟨rfl, Nat.zero_le _, fun h => by omega⟩
theorem intsAt_open {w : World} {x : Addr} {len cap : Nat} {zs : List Int} (hl : len ≤ cap) (hm : cap ≤ maxLen) (hz : zs.length = cap) (hc : ∀ i, i < zs.length → w.cell? (x.add i) = some (.int .i64 (zs.getD i 0))) : IntsAt w (some x) len (zs.take len) := by
  refine ⟨by rw [List.length_take]; omega, Nat.le_trans hl hm, fun h0 => ?_⟩
  obtain ⟨b, off, rfl, h⟩ := ints_at hc (by omega)
  refine ⟨b, off, rfl, fun i hi => ?_⟩
  rw [h i (by omega)]
  have e : (zs.take len).getD i 0 = zs.getD i 0 := by simp [List.getD, hi]
  rw [e]
end Go.Proofs.Ytefngikfidlojaa
