/-
  Bytes of a text in a block of the call's own; the walk of helixlaw01.small: every second capital as a small letter.
-/
import Derived.Test.YtefngikfidlojaaBlocks
import Derived.Test.YtefngikfidlojaaAddRef
namespace Go.Proofs.Ytefngikfidlojaa
open Go.RowKit

/-- Block g holds these bytes at its head, and may be written there. -/
structure BytesAt (w : World) (g : Nat) (bs : List UInt8) : Prop where
  row : ∃ cur hi, w.heap[g]? = some (.cells cur 5 (cur.size, hi)) ∧ bs.length ≤ cur.size ∧ ∀ j, j < bs.length → cur[j]? = some (.int .u8 ((bs.getD j 0).toNat : Int))

theorem BytesAt.cell {w : World} {g : Nat} {bs : List UInt8} (h : BytesAt w g bs) (j : Nat) (hj : j < bs.length) : w.cell? ⟨g, j, none⟩ = some (.int .u8 ((bs.getD j 0).toNat : Int)) := by
  obtain ⟨cur, hi, hg, hl, hc⟩ := h.row
  rw [cell_of_row w g j cur 5 _ hg]
  exact hc j hj
theorem BytesAt.frozen {w : World} {g : Nat} {bs : List UInt8} (h : BytesAt w g bs) (j : Nat) (hj : j < bs.length) : w.frozen? ⟨g, j, none⟩ = false := by
  obtain ⟨cur, hi, hg, hl, hc⟩ := h.row
  have : ¬ cur.size ≤ j := by omega
  simp [World.frozen?, hg, this]
theorem BytesAt.put {w : World} {g : Nat} {bs : List UInt8} (h : BytesAt w g bs) (j : Nat) (c : UInt8) : BytesAt (w.setCell ⟨g, j, none⟩ (.int .u8 (c.toNat : Int))) g (bs.set j c) := by
  obtain ⟨cur, hi, hg, hl, hc⟩ := h.row
  refine ⟨cur.setIfInBounds j (.int .u8 (c.toNat : Int)), hi, ?_, by simpa using hl, ?_⟩
  · have hlt := lt_block hg
    simp only [World.setCell, Array.getElem?_modify]
    rw [if_pos trivial, hg]
    simp
  · intro i hi'
    have hi2 : i < bs.length := by simpa using hi'
    have hc' := hc i hi2
    by_cases e : j = i
    · subst e
      rw [Array.getElem?_setIfInBounds_self_of_lt (by omega)]
      simp [List.getD, hi2]
    · rw [Array.getElem?_setIfInBounds_ne e, hc']
      have e2 : (bs.set j c).getD i 0 = bs.getD i 0 := by simp [List.getD, List.getElem?_set_ne e]
      rw [e2]
theorem BytesAt.drewn {w w1 : World} {g : Nat} {bs : List UInt8} (h : BytesAt w g bs) (hd : ∃ n, w1 = w.drewN n) : BytesAt w1 g bs := by
  obtain ⟨n, rfl⟩ := hd
  exact ⟨h.row⟩
theorem BytesAt.text {w : World} {g : Nat} {bs : List UInt8} (h : BytesAt w g bs) (n cap : Nat) (hn : bs.length = n) : (convert 41 9 (.slice (some ⟨g, 0, none⟩) n cap)).run Try.prog w = .ok (.string ⟨bs.toArray⟩) w := by
  subst hn
  refine run_convert_bytes_back w 41 9 5 ⟨g, 0, none⟩ cap bs Try.underlying41 Try.underlying5 Try.underlying9 ?_
  intro j hj
  have hadd : (⟨g, 0, none⟩ : Addr).add j = ⟨g, j, none⟩ := by unfold Addr.add; split <;> simp_all
  rw [hadd, h.cell j hj]
  simp [List.getD, List.getElem?_eq_getElem hj]
theorem bytesAt_new (w : World) (s : ByteArray) (cap hi : Nat) : BytesAt (w.drew.alloc (.cells (bytesRow s cap) 5 ((bytesRow s cap).size, hi))) w.heap.size s.data.toList := by
  refine ⟨bytesRow s cap, hi, ?_, ?_, ?_⟩
  · show (w.heap.push _)[w.heap.size]? = _
    simp
  · simp [bytesRow]
  · intro j hj
    have hj' : j < s.data.size := by simpa using hj
    rw [bytesRow_at s cap j hj']
    simp [List.getD, Array.getElem?_eq_getElem hj']

/-- helixlaw01.small, at one place. -/
def smallAt (j : Nat) (c : UInt8) : UInt8 := if j % 2 = 0 ∧ 65 ≤ c.toNat ∧ c.toNat ≤ 90 then c + 32 else c
/-- The text with its first k places made small. -/
def smallTo (l : List UInt8) (k : Nat) : List UInt8 := (List.range l.length).map fun j => if j < k then smallAt j (l.getD j 0) else l.getD j 0
def smallB (l : List UInt8) : List UInt8 := (List.range l.length).map fun j => smallAt j (l.getD j 0)

theorem smallTo_length (l : List UInt8) (k : Nat) : (smallTo l k).length = l.length := by simp [smallTo]
theorem smallB_length (l : List UInt8) : (smallB l).length = l.length := by simp [smallB]
theorem smallTo_zero (l : List UInt8) : smallTo l 0 = l := by
  apply List.ext_getElem
  · simp [smallTo]
  · intro i h1 h2
    simp [smallTo, List.getD, h2]
theorem smallTo_all (l : List UInt8) (k : Nat) (h : l.length ≤ k) : smallTo l k = smallB l := by
  unfold smallTo smallB
  apply List.map_congr_left
  intro j hj
  rw [if_pos (by have := List.mem_range.1 hj; omega)]
theorem smallTo_get (l : List UInt8) (k j : Nat) (hj : j < l.length) (hk : k ≤ j) : (smallTo l k).getD j 0 = l.getD j 0 := by
  have h1 : j < (smallTo l k).length := by rw [smallTo_length]; exact hj
  rw [List.getD, List.getElem?_eq_getElem h1, Option.getD_some]
  simp only [smallTo, List.getElem_map, List.getElem_range]
  rw [if_neg (by omega)]
theorem smallTo_step (l : List UInt8) (k : Nat) (hk : k % 2 = 0) : smallTo l (k + 2) = (smallTo l k).set k (smallAt k (l.getD k 0)) := by
  apply List.ext_getElem
  · simp [smallTo]
  · intro i h1 h2
    rw [List.getElem_set]
    simp only [smallTo, List.getElem_map, List.getElem_range]
    by_cases e : k = i
    · subst e; rw [if_pos (by omega), if_pos rfl]
    · rw [if_neg e]
      by_cases h : i < k
      · rw [if_pos (by omega), if_pos h]
      · rw [if_neg h]
        by_cases h' : i < k + 2
        · rw [if_pos h']
          unfold smallAt
          rw [if_neg (by omega)]
        · rw [if_neg h']
theorem smallTo_same (l : List UInt8) (k : Nat) (hk : k % 2 = 0) (hl : k < l.length) (h : ¬ (65 ≤ (l.getD k 0).toNat ∧ (l.getD k 0).toNat ≤ 90)) : smallTo l (k + 2) = smallTo l k := by
  rw [smallTo_step l k hk]
  have e : smallAt k (l.getD k 0) = (smallTo l k).getD k 0 := by
    rw [smallTo_get l k k hl (Nat.le_refl _)]
    unfold smallAt
    rw [if_neg (by omega)]
  rw [e]
  have h1 : k < (smallTo l k).length := by rw [smallTo_length]; exact hl
  simp [List.getD, List.getElem?_eq_getElem h1]
theorem small_val (c : UInt8) (h0 : 65 ≤ c.toNat) (h : c.toNat ≤ 90) (k : Nat) (hk : k % 2 = 0) : ((smallAt k c).toNat : Int) = (c.toNat : Int) + 32 := by
  unfold smallAt
  rw [if_pos ⟨hk, h0, h⟩, UInt8.toNat_add]
  have : (32 : UInt8).toNat = 32 := rfl
  omega

set_option maxHeartbeats 1000000 in
theorem small_calls (s : ByteArray) (w : World) (hs : s.size ≤ 65536) :
    Calls Try.prog 21 #[.string s] w fun e w' => e = .returned (.string ⟨(smallB s.data.toList).toArray⟩) ∧ Below w.heap.size w w' := by
  have hl : s.data.toList.length = s.size := by simp
  have hconv := run_bytes_of_string (P := Try.prog) w 9 41 5 s Try.underlying9 Try.underlying41 Try.underlying5
  generalize hcap : grownCap w s.size 0 5 = cap at hconv
  clear hcap
  go_enter Try.func21, Try.ntmps21
  go_wp2
  have HB0 : Hid (Below w.heap.size w (w.alloc (.cells (bytesRow s cap) 5 ((bytesRow s cap).size, (bytesRow s cap).size + 1))).drew) := ((Below.refl _ _).alloc (Nat.le_refl _) _).drew
  have HX0 : Hid (BytesAt (w.alloc (.cells (bytesRow s cap) 5 ((bytesRow s cap).size, (bytesRow s cap).size + 1))).drew w.heap.size s.data.toList) := bytesAt_new w s cap _
  clear hconv
  go_loopw [4] (fun i wr => ∃ k : Nat, k % 2 = 0 ∧ k ≤ s.size + 1 ∧ i = .int .i64 k ∧ BytesAt wr w.heap.size (smallTo s.data.toList k) ∧ Below w.heap.size w wr) (fun i _ => s.size + 2 - (intOf i).toNat)
  case atStart => exact ⟨0, rfl, Nat.zero_le _, rfl, by rw [smallTo_zero]; exact HX0.out, HB0.out⟩
  case round =>
    obtain ⟨k, hk2, hk, rfl, hx, hb⟩ := hrel
    have HX : Hid (BytesAt wr w.heap.size (smallTo s.data.toList k)) := hx
    have HB : Hid (Below w.heap.size w wr) := hb
    have HK2 : Hid (k % 2 = 0) := hk2
    clear hx hb hk2 HB0 HX0
    have hsl : (smallTo s.data.toList k).length = s.size := by rw [smallTo_length]; simp
    have HSL : Hid ((smallTo s.data.toList k).length = s.size) := hsl
    clear hsl
    by_cases hlt : k < s.size
    · have hc := HX.out.cell k (by rw [HSL.out]; exact hlt)
      have hfz := HX.out.frozen k (by rw [HSL.out]; exact hlt)
      rw [smallTo_get s.data.toList k k (by omega) (Nat.le_refl _)] at hc
      generalize hcc : s.data.toList.getD k 0 = c at hc
      have HC : Hid (s.data.toList.getD k 0 = c) := hcc
      clear hcc
      have hb255 := UInt8.toNat_lt c
      by_cases hcap : 65 ≤ (c.toNat : Int) ∧ (c.toNat : Int) ≤ 90
      · obtain ⟨h65, h90⟩ := hcap
        have HS : Hid (((smallAt k c).toNat : Int) = (c.toNat : Int) + 32) := small_val c (by omega) (by omega) k HK2.out
        go_wp2
        go_roundw
        case rel =>
          refine ⟨k + 2, by have := HK2.out; omega, by omega, by go_num, ?_, HB.out.setCell (p := ⟨w.heap.size, k, none⟩) (Nat.le_refl _) _⟩
          rw [smallTo_step _ _ HK2.out, HC.out, ← HS.out]
          exact HX.out.put k _
        case measure => simp [intOf]; omega
      · by_cases h65 : 65 ≤ (c.toNat : Int)
        · have h90 : 90 < (c.toNat : Int) := by omega
          clear hcap
          go_wp2
          go_roundw
          case rel =>
            refine ⟨k + 2, by have := HK2.out; omega, by omega, by go_num, ?_, HB.out⟩
            rw [smallTo_same _ _ HK2.out (by omega) (by rw [HC.out]; omega)]
            exact HX.out
          case measure => simp [intOf]; omega
        · clear hcap
          go_wp2
          go_roundw
          case rel =>
            refine ⟨k + 2, by have := HK2.out; omega, by omega, by go_num, ?_, HB.out⟩
            rw [smallTo_same _ _ HK2.out (by omega) (by rw [HC.out]; omega)]
            exact HX.out
          case measure => simp [intOf]; omega
    · have hconv := HX.out.text s.size cap HSL.out
      rw [smallTo_all _ _ (by omega)] at hconv
      go_wp2
      go_ret
      exact ⟨rfl, HB.out⟩
end Go.Proofs.Ytefngikfidlojaa
