/-
  Slices of sequences in memory; the walks of both functions that look for a name.
-/
import Derived.Test.YtcleejdlmamdhaaLeaf2
namespace Go.Proofs.Ytcleejdlmamdhaa
open Go.RowKit

/-- A sequence as the program's memory holds it: its name, its note, its letters. -/
abbrev Sq := ByteArray × ByteArray × ByteArray
def Sq.P (q : Sq) : Pq := (q.1.data.toList, q.2.1.data.toList, q.2.2.data.toList)
theorem Sq.P_inj {p q : Sq} (h : p.P = q.P) : p = q := by
  obtain ⟨a, b, c⟩ := p
  obtain ⟨d, e, f⟩ := q
  simp only [Sq.P, Prod.mk.injEq] at h
  rw [byte_ext h.1, byte_ext h.2.1, byte_ext h.2.2]
def sqCells (q : Sq) : List Value := [.string q.1, .string q.2.1, .string q.2.2]

/-- A slice of sequences that can be read in a world. -/
structure SqsAt (w : World) (ao : Option Addr) (len : Nat) (qs : List Sq) : Prop where
  length : qs.length = len
  short : len ≤ maxLen
  cells : 0 < len → ∃ b off, ao = some ⟨b, off, none⟩ ∧ ∀ i q, qs[i]? = some q → w.cell? ⟨b, off + i * 3, none⟩ = some (.string q.1) ∧ w.cell? ⟨b, off + i * 3 + 1, none⟩ = some (.string q.2.1) ∧ w.cell? ⟨b, off + i * 3 + 2, none⟩ = some (.string q.2.2)

theorem SqsAt.below {w w' : World} {ao : Option Addr} {len : Nat} {qs : List Sq} (h : SqsAt w ao len qs) (hb : Below w.heap.size w w') : SqsAt w' ao len qs := by
  refine ⟨h.length, h.short, fun h0 => ?_⟩
  obtain ⟨b, off, e, hc⟩ := h.cells h0
  refine ⟨b, off, e, fun i q hi => ?_⟩
  obtain ⟨h1, h2, h3⟩ := hc i q hi
  refine ⟨?_, ?_, ?_⟩
  · rw [hb.cell (World.block_lt_of_cell? w _ h1)]; exact h1
  · rw [hb.cell (World.block_lt_of_cell? w _ h2)]; exact h2
  · rw [hb.cell (World.block_lt_of_cell? w _ h3)]; exact h3

theorem namedB_hit {qs : List Sq} {q : Sq} {k : Nat} {s : ByteArray} (h : qs[k]? = some q) (e : (q.1.toList == s.toList) = true) : namedB (qs.map Sq.P) s.data.toList = true := by
  have e' : q.1 = s := by
    apply byte_ext; rw [← ByteArray.toList_eq, ← ByteArray.toList_eq]; simpa using e
  unfold namedB
  rw [List.any_eq_true]
  exact ⟨q.P, List.mem_map_of_mem (List.mem_of_getElem? h), by simp [Sq.P, e']⟩
theorem namedB_none {qs : List Sq} {s : ByteArray} (h : ∀ q ∈ qs, q.1 ≠ s) : namedB (qs.map Sq.P) s.data.toList = false := by
  unfold namedB
  rw [List.any_eq_false]
  intro p hp
  obtain ⟨q, hq, rfl⟩ := List.mem_map.1 hp
  have h2 : ¬ q.1.data.toList = s.data.toList := fun e => h q hq (byte_ext e)
  simp [Sq.P] at h2 ⊢
  exact h2
theorem name_ne {a s : ByteArray} (e : (a.toList == s.toList) = false) : a ≠ s := by
  intro h; subst h; simp at e
theorem take_next {qs : List Sq} {q : Sq} {k : Nat} {s : ByteArray} (h : ∀ p ∈ qs.take k, p.1 ≠ s) (hq : qs[k]? = some q) (hn : q.1 ≠ s) : ∀ p ∈ qs.take (k + 1), p.1 ≠ s := by
  intro p hp
  rw [List.take_succ_eq_append_getElem (by exact (List.getElem?_eq_some_iff.1 hq).1), (List.getElem?_eq_some_iff.1 hq).2] at hp
  rcases List.mem_append.1 hp with h1 | h1
  · exact h p h1
  · rw [List.mem_singleton.1 h1]; exact hn

theorem named_calls (ao : Option Addr) (len cap : Nat) (qs : List Sq) (s : ByteArray) (w : World) (hz : SqsAt w ao len qs) :
    Calls Try.prog 26 #[.slice ao len cap, .string s] w fun e w' => e = .returned (.bool (namedB (qs.map Sq.P) s.data.toList)) ∧ Below w.heap.size w w' := by
  have hm := hz.short
  unfold maxLen at hm
  have HZL : Hid (qs.length = len) := hz.length
  have HZ : Hid (SqsAt w ao len qs) := hz
  clear hz
  go_enter Try.func26, Try.ntmps26
  go_wp2
  go_loopw [9] (fun i wr => ∃ k : Nat, k ≤ len ∧ i = .int .i64 k ∧ (∀ q ∈ qs.take k, q.1 ≠ s) ∧ Below w.heap.size w wr) (fun i _ => len - (intOf i).toNat)
  case atStart => exact ⟨0, Nat.zero_le _, rfl, by simp, Below.refl _ _⟩
  case round =>
    obtain ⟨k, hk, rfl, hn, hbel⟩ := hrel
    have HN : Hid (∀ q ∈ qs.take k, q.1 ≠ s) := hn
    have HB : Hid (Below w.heap.size w wr) := hbel
    clear hn hbel
    by_cases hlt : k < len
    · obtain ⟨b, off, rfl, hcs⟩ := (HZ.out.below HB.out).cells (by omega)
      obtain ⟨q, hq⟩ : ∃ q, qs[k]? = some q := ⟨_, List.getElem?_eq_getElem (by rw [HZL.out]; exact hlt)⟩
      obtain ⟨hc1, hc2, hc3⟩ := hcs k q hq
      have HQ : Hid (qs[k]? = some q) := hq
      clear hcs hq
      cases hqe : (q.1.toList == s.toList) with
      | true =>
        have HE : Hid (namedB (qs.map Sq.P) s.data.toList = true) := namedB_hit HQ.out hqe
        go_wp2
        go_ret
        exact ⟨ret_bool HE.out.symm, HB.out.alloc HB.out.size _⟩
      | false =>
        have HE : Hid (q.1 ≠ s) := name_ne hqe
        go_wp2
        go_roundw
        case rel => exact ⟨k + 1, by omega, by go_num, take_next HN.out HQ.out HE.out, HB.out.alloc HB.out.size _⟩
        case measure => simp [intOf]; omega
    · have HE : Hid (namedB (qs.map Sq.P) s.data.toList = false) := namedB_none (fun q hq => HN.out q (by rwa [List.take_of_length_le (by rw [HZL.out]; omega)]))
      go_wp2
      go_ret
      exact ⟨ret_bool HE.out.symm, HB.out⟩

theorem refNamed_calls (ao : Option Addr) (len cap : Nat) (qs : List Sq) (s : ByteArray) (w : World) (hz : SqsAt w ao len qs) :
    Calls Try.prog 31 #[.slice ao len cap, .string s] w fun e w' => e = .returned (.bool (namedB (qs.map Sq.P) s.data.toList)) ∧ Below w.heap.size w w' := by
  have hm := hz.short
  unfold maxLen at hm
  have HZL : Hid (qs.length = len) := hz.length
  have HZ : Hid (SqsAt w ao len qs) := hz
  clear hz
  go_enter Try.func31, Try.ntmps31
  go_wp2
  go_loopw [5] (fun i wr => ∃ k : Nat, k ≤ len ∧ i = .int .i64 k ∧ (∀ q ∈ qs.take k, q.1 ≠ s) ∧ Below w.heap.size w wr) (fun i _ => len - (intOf i).toNat)
  case atStart => exact ⟨0, Nat.zero_le _, rfl, by simp, Below.refl _ _⟩
  case round =>
    obtain ⟨k, hk, rfl, hn, hbel⟩ := hrel
    have HN : Hid (∀ q ∈ qs.take k, q.1 ≠ s) := hn
    have HB : Hid (Below w.heap.size w wr) := hbel
    clear hn hbel
    by_cases hlt : k < len
    · obtain ⟨b, off, rfl, hcs⟩ := (HZ.out.below HB.out).cells (by omega)
      obtain ⟨q, hq⟩ : ∃ q, qs[k]? = some q := ⟨_, List.getElem?_eq_getElem (by rw [HZL.out]; exact hlt)⟩
      obtain ⟨hc1, hc2, hc3⟩ := hcs k q hq
      have HQ : Hid (qs[k]? = some q) := hq
      clear hcs hq
      cases hqe : (q.1.toList == s.toList) with
      | true =>
        have HE : Hid (namedB (qs.map Sq.P) s.data.toList = true) := namedB_hit HQ.out hqe
        go_wp2
        go_ret
        exact ⟨ret_bool HE.out.symm, HB.out⟩
      | false =>
        have HE : Hid (q.1 ≠ s) := name_ne hqe
        go_wp2
        go_roundw
        case rel => exact ⟨k + 1, by omega, by go_num, take_next HN.out HQ.out HE.out, HB.out⟩
        case measure => simp [intOf]; omega
    · have HE : Hid (namedB (qs.map Sq.P) s.data.toList = false) := namedB_none (fun q hq => HN.out q (by rwa [List.take_of_length_le (by rw [HZL.out]; omega)]))
      go_wp2
      go_ret
      exact ⟨ret_bool HE.out.symm, HB.out⟩
end Go.Proofs.Ytcleejdlmamdhaa
