/-
  The walk of cigar.Of.
-/
import Derived.Test.YtkecpjgpgnfhmaaDoorLeaf
namespace Go.Proofs.YtkecpjgpgnfhmaaDoor
open Go.RowKit

/-- A rune of a text, as a loop over it meets it: the byte itself if it is below 128. -/
theorem next_rune (wr : World) (k : Nat) (s : ByteArray) (pos : Nat) (hit : wr.heap[k]? = some (.stringIter s pos)) (hp : pos < s.size) :
    ∃ (x : Int) (d : Nat), (∀ ty, (Instr.next (.pointer (some ⟨k, 0, none⟩)) true ty).run Tryd.prog wr = .ok (.tuple #[.bool true, .int .i64 pos, .int .i32 x]) (wr.iterAt k s (pos + d))) ∧ 1 ≤ d ∧
      ((x = (s[pos].toNat : Int) ∧ d = 1) ∨ (128 ≤ x ∧ 128 ≤ s[pos].toNat)) := by
  by_cases ha : s[pos].toNat < 128
  · exact ⟨_, 1, fun ty => Lib.run_next_ascii_at wr k s pos ty hit hp ha, Nat.le_refl _, .inl ⟨rfl, rfl⟩⟩
  · obtain ⟨h1, h2⟩ := decode_high s pos hp (by omega)
    exact ⟨_, _, fun ty => Lib.run_next_any_at wr k s pos ty hit hp, h2, .inr ⟨by omega, by omega⟩⟩
theorem colI_high {x : Int} (h : 128 ≤ x) : isColI x = false := by
  unfold isColI; simp; omega
theorem opI_high {x : Int} (h : 128 ≤ x) : isOpI x = false := by
  unfold isOpI; rw [colI_high h]; simp; omega
theorem colB_high {c : UInt8} (h : 128 ≤ c.toNat) : isColB c = false := by rw [← isColI_byte, colI_high (by omega)]
theorem opB_high {c : UInt8} (h : 128 ≤ c.toNat) : isOpB c = false := by rw [← isOpI_byte, opI_high (by omega)]
theorem owned_base {w : World} {b b' : Nat} {e : TypeId} {size : Nat} {v : Value} {n : Nat} {xs : List Value} (h : w.ownsRow b e size v n xs) (hb : b' ≤ b) : w.ownsRow b' e size v n xs := by
  refine ⟨h.1, ?_⟩
  rcases h.2 with hn | ⟨g, cap, cur, hv, h1, rest⟩
  · exact .inl hn
  · exact .inr ⟨g, cap, cur, hv, by omega, rest⟩
theorem owned_none_nil (w : World) (B : Nat) : w.ownsRow B 29 2 (.slice none 0 0) ([] : List Rn).length (rowCells []) := World.ownsRow_nil _ _ _ _

/-- What a function that tells runs and an error leaves. -/
def RunsPost (a : List Rn × Int) (w : World) (e : Ending) (w' : World) : Prop :=
  ∃ v, e = .returned (.tuple #[v, .int .i64 a.2]) ∧ w'.ownsRow w.heap.size 29 2 v a.1.length (rowCells a.1) ∧ Below w.heap.size w w'
theorem runs_none {a : List Rn × Int} {w w' : World} {z : Int} (h : a = ([], z)) (hb : Below w.heap.size w w') : RunsPost a w (.returned (.tuple #[.slice none 0 0, .int .i64 z])) w' := by
  subst h
  exact ⟨_, rfl, owned_none_nil _ _, hb⟩

set_option maxHeartbeats 2000000 in
theorem of_calls (s : ByteArray) (w : World) (hs : s.size ≤ maxLen) :
    Calls Tryd.prog 9 #[.string s] w fun e w' => RunsPost (ofA s.data.toList) w e w' := by
  unfold maxLen at hs
  by_cases hlen : 131072 < s.size
  · have HE : Hid (RunsPost (ofA s.data.toList) w (.returned (.tuple #[.slice none 0 0, .int .i64 2])) w) := runs_none (by unfold ofA; rw [if_pos (by rw [size_toList]; exact hlen)]) (Below.refl _ _)
    have hd : decide ((131072 : Int) < (s.size : Int)) = true := by simp; omega
    go_enter Tryd.func9, Tryd.ntmps9
    go_wp2
    go_ret2
    exact HE.out
  have hd : decide ((131072 : Int) < (s.size : Int)) = false := by simp; omega
  have HA : Hid (ofA s.data.toList = if s.data.toList.all isColB then (runsB s.data.toList, 0) else ([], 40)) := by
    show _ = _
    unfold ofA; rw [if_neg (by rw [size_toList]; exact hlen)]
  go_enter Tryd.func9, Tryd.ntmps9
  go_wp2
  go_loopw [4] (fun v wr => ∃ (pos : Nat) (l : List Rn), pos ≤ s.size ∧ l = runsB (s.data.toList.take pos) ∧ (s.data.toList.take pos).all isColB = true ∧ wr.heap[w.heap.size]? = some (.stringIter s pos) ∧ wr.ownsRow (w.heap.size + 1) 29 2 v l.length (rowCells l) ∧ Below w.heap.size w wr) (fun _ wr => s.size - wr.iterPos w.heap.size)
  case atStart => exact ⟨0, [], Nat.zero_le _, rfl, by simp, World.iter_heap w s 0, World.ownsRow_nil _ _ _ _, (Below.refl _ _).alloc (Nat.le_refl _) _⟩
  case round =>
    obtain ⟨pos, l, hp0, hl, hal, hit, hown, hbw⟩ := hrel
    have hpos0 := iterPos_of hit
    obtain ⟨ao, cap, rfl⟩ := owned_shape hown
    have HL : Hid (l = runsB (s.data.toList.take pos)) := hl
    have HAl : Hid ((s.data.toList.take pos).all isColB = true) := hal
    clear hl hal
    by_cases hp : pos < s.size
    · obtain ⟨x, d, hnx, hd1, hx⟩ := next_rune wr w.heap.size s pos hit hp
      have HG : Hid (s.data.toList[pos]? = some s[pos]) := getElem?_at s pos hp
      have hit2 := Lib.iterAt_heap wr w.heap.size s pos (pos + d) hit
      have hbw2 := Lib.below_iterAt hbw (k := w.heap.size) (Nat.le_refl _) s (pos + d)
      have hown2 := ownsRow_iterAt hown (k := w.heap.size) (by omega) s (pos + d)
      obtain ⟨W1, hW1⟩ : ∃ W1, W1 = wr.iterAt w.heap.size s (pos + d) := ⟨_, rfl⟩
      rw [← hW1] at hnx hit2 hbw2 hown2
      clear hW1 hit hown hbw
      cases hc : isColB s[pos] with
      | false =>
        have hI : isColI x = false := by
          rcases hx with ⟨rfl, _⟩ | ⟨h1, _⟩
          · rw [isColI_byte]; exact hc
          · exact colI_high h1
        have HE : Hid (RunsPost (ofA s.data.toList) w (.returned (.tuple #[.slice none 0 0, .int .i64 40])) W1) := runs_none (by rw [HA.out, all_false_at HG.out hc]; rfl) hbw2
        clear hx hc hit2 hown2 hbw2 HA
        go_wp2_with (go_at_call 23; refine (isColumn_calls _ _).mono ?_; rintro e w' ⟨rfl, rfl⟩; rw [hI])
        go_ret2
        exact HE.out
      | true =>
        obtain ⟨rfl, rfl⟩ : x = (s[pos].toNat : Int) ∧ d = 1 := by
          rcases hx with h | ⟨_, h⟩
          · exact h
          · rw [colB_high h] at hc; cases hc
        have hI : isColI (s[pos].toNat : Int) = true := by rw [isColI_byte]; exact hc
        have hok := runs_ok (s.data.toList.take pos)
        rw [← HL.out, List.length_take, size_toList, Nat.min_eq_left hp0] at hok
        have hlt := (Array.getElem?_eq_some_iff.1 hit2).1
        have HC : Hid (Calls Tryd.prog 24 #[.slice ao l.length cap, .int .u8 (s[pos].toNat : Int)] W1 fun e w' => Grew (w.heap.size + 1) (lenB l s[pos]) W1 e w') :=
          lengthen_calls _ _ l s[pos] W1 hown2 (by omega) (by have := hok.few; omega) (fun r hr => by have := hok.lens r hr; omega)
        have HK : Hid (∀ v w3, w3.ownsRow (w.heap.size + 1) 29 2 v (lenB l s[pos]).length (rowCells (lenB l s[pos])) → Below (w.heap.size + 1) W1 w3 → w3.heap[w.heap.size]? = some (.stringIter s (pos + 1)) ∧ Below w.heap.size w w3) := by
          intro v w3 _ hb
          exact ⟨by rw [hb.block _ (by omega)]; exact hit2, hbw2.trans (hb.mono (by omega))⟩
        have HN : Hid (lenB l s[pos] = runsB (s.data.toList.take (pos + 1)) ∧ (s.data.toList.take (pos + 1)).all isColB = true) := by
          exact ⟨by rw [runsB_take _ _ _ HG.out, HL.out], all_take_succ HG.out HAl.out hc⟩
        have hu8 := UInt8.toNat_lt s[pos]
        clear hx hc hit2 hown2 hbw2 HA HL HAl hok
        generalize lenB l s[pos] = l2 at *
        go_wp2_with (first
          | (go_at_call 23; refine (isColumn_calls _ _).mono ?_; rintro e w' ⟨rfl, rfl⟩; rw [hI])
          | (go_at_call 24; refine HC.out.mono ?_; rintro e w3 ⟨v3, rfl, ho3, hb3⟩))
        go_roundw
        case rel => exact ⟨pos + 1, l2, by omega, HN.out.1, HN.out.2, (HK.out _ _ ho3 hb3).1, ho3, (HK.out _ _ ho3 hb3).2⟩
        case measure => rw [iterPos_of (HK.out _ _ ho3 hb3).1, hpos0]; omega
    · have hnx : ∀ ty, (Instr.next (.pointer (some ⟨w.heap.size, 0, none⟩)) true ty).run Tryd.prog wr = _ := fun ty => Lib.run_next_end_at wr w.heap.size s pos ty hit hp
      have HE : Hid (∀ v, wr.ownsRow (w.heap.size + 1) 29 2 v l.length (rowCells l) → RunsPost (ofA s.data.toList) w (.returned (.tuple #[v, .int .i64 0])) wr) := by
        intro v hv
        have e : s.data.toList.take pos = s.data.toList := List.take_of_length_le (by rw [size_toList]; omega)
        have hA : ofA s.data.toList = (l, 0) := by rw [HA.out, HL.out, e, if_pos (by rw [← e]; exact HAl.out)]
        rw [hA]
        exact ⟨v, rfl, owned_base hv (by omega), hbw⟩
      have HO : Hid (wr.ownsRow (w.heap.size + 1) 29 2 (.slice ao l.length cap) l.length (rowCells l)) := hown
      clear hown hbw HA
      go_wp2
      go_ret2
      exact HE.out _ HO.out
end Go.Proofs.YtkecpjgpgnfhmaaDoor
