/-
  The walks of alpha.Decode and helixref01.Decode: a text out of numbers.
-/
import Derived.Test.YtefngikfidlojaaEnc
import Derived.Laws.IdiomStrings
namespace Go.Proofs.Ytefngikfidlojaa
open Go.RowKit

/-- A slice of integers that can be read in a world: its elements. -/
structure IntsAt (w : World) (ao : Option Addr) (len : Nat) (zs : List Int) : Prop where
  length : zs.length = len
  short : len ≤ maxLen
  cells : 0 < len → ∃ b off, ao = some ⟨b, off, none⟩ ∧ ∀ i, i < len → w.cell? ⟨b, off + i, none⟩ = some (.int .i64 (zs.getD i 0))

theorem IntsAt.below {w w' : World} {ao : Option Addr} {len : Nat} {zs : List Int} (h : IntsAt w ao len zs) (hb : Below w.heap.size w w') : IntsAt w' ao len zs := by
  refine ⟨h.length, h.short, fun h0 => ?_⟩
  obtain ⟨b, off, e, hc⟩ := h.cells h0
  refine ⟨b, off, e, fun i hi => ?_⟩
  have hci := hc i hi
  rw [hb.cell (p := ⟨b, off + i, none⟩) (World.block_lt_of_cell? w _ hci)]
  exact hci

/-- A row of the call's own that is filled up to k. -/
structure FillInv (w : World) (e : TypeId) (f : Nat → Value) (z : Value) (g n k : Nat) (wr : World) : Prop where
  own : wr.ownsRow w.heap.size e 1 (.slice (some ⟨g, 0, none⟩) n n) n (filled f z n k)
  below : Below w.heap.size w wr
theorem FillInv.start {w w2 : World} {e : TypeId} {f : Nat → Value} {z : Value} {g n : Nat} (hz : z.cells = #[z]) (h : w2.ownsRow w.heap.size e 1 (.slice (some ⟨g, 0, none⟩) n n) n (madeCells z.cells (n * 1)).toList) (hb : Below w.heap.size w w2) : FillInv w e f z g n 0 w2 :=
  ⟨by
    rw [filled_zero]
    have e : (madeCells z.cells (n * 1)).toList = List.replicate n z := by
      rw [Nat.mul_one, hz]; exact toList_madeCells_one _ _
    rwa [e] at h, hb⟩
theorem FillInv.cell {w wr : World} {e : TypeId} {f : Nat → Value} {z : Value} {g n k : Nat} (h : FillInv w e f z g n k wr) (hk : k < n) : wr.cell? ⟨g, k, none⟩ = some z := by
  rw [h.own.cellAt k (by omega)]
  simp [filled, hk]
theorem FillInv.frozen {w wr : World} {e : TypeId} {f : Nat → Value} {z : Value} {g n k : Nat} (h : FillInv w e f z g n k wr) : wr.frozen? ⟨g, k, none⟩ = false := h.own.frozenAt k
theorem FillInv.step {w wr : World} {e : TypeId} {f : Nat → Value} {z : Value} {g n k : Nat} (h : FillInv w e f z g n k wr) {u : Value} (hu : u = f k) : FillInv w e f z g n (k + 1) (wr.setCell ⟨g, k, none⟩ u) := by
  refine ⟨?_, h.below.setCell (p := ⟨g, k, none⟩) (h.own.lt g rfl).1 _⟩
  have := (h.own.stored k u).1
  rwa [filled_set _ _ _ _ _ hu] at this

/-- string(b) of a filled row. -/
theorem FillInv.text {w wr : World} {f : Nat → Value} {g n k : Nat} {z : Value} (h : FillInv w 5 f z g n k wr) (hk : n ≤ k) (t : List UInt8) (ht : t.length = n) (hf : ∀ j (hj : j < t.length), f j = .int .u8 (t[j].toNat : Int)) :
    (convert 41 9 (.slice (some ⟨g, 0, none⟩) n n)).run Try.prog wr = .ok (.string ⟨t.toArray⟩) wr := by
  subst ht
  refine run_convert_bytes_back wr 41 9 5 ⟨g, 0, none⟩ t.length t Try.underlying41 Try.underlying5 Try.underlying9 ?_
  intro j hj
  have hadd : (⟨g, 0, none⟩ : Addr).add j = ⟨g, j, none⟩ := by unfold Addr.add; split <;> simp_all
  rw [hadd, h.own.cellAt j (by omega), filled_all _ _ _ _ hk]
  simp [hj, hf j hj]

def DecPost (l : List UInt8) (zs : List Int) (w : World) (e : Ending) (w' : World) : Prop :=
  e = .returned (.tuple #[.string ⟨(decB l zs).1.toArray⟩, .int .i64 (decB l zs).2]) ∧ Below w.heap.size w w'

/-- The byte at place j of what is told of numbers. -/
def letterAt (l : List UInt8) (zs : List Int) (j : Nat) : UInt8 := l.getD (zs.getD j 0).toNat 0

theorem decB_bad {l : List UInt8} {zs : List Int} (hr : rightB l = true) (hlong : zs.length ≤ 65536) (k : Nat) (hk : k < zs.length) (hn : zs.getD k 0 < 0 ∨ (l.length : Int) ≤ zs.getD k 0) : decB l zs = ([], 11) := by
  have : zs.all (isNum l) = false := by
    rw [List.all_eq_false]
    refine ⟨zs[k], List.getElem_mem hk, ?_⟩
    simp only [List.getD, List.getElem?_eq_getElem hk, Option.getD_some] at hn
    simp [isNum]; omega
  unfold decB
  rw [hr, if_neg (by decide), if_neg (by omega), this, if_neg (by decide)]
theorem decB_all {l : List UInt8} {zs : List Int} (hr : rightB l = true) (hlong : zs.length ≤ 65536) (h : ∀ j, j < zs.length → 0 ≤ zs.getD j 0 ∧ zs.getD j 0 < (l.length : Int)) : decB l zs = (decText l zs, 0) := by
  have : zs.all (isNum l) = true := by
    rw [List.all_eq_true]
    intro n hn
    obtain ⟨j, hj, rfl⟩ := List.getElem_of_mem hn
    have := h j hj
    simp only [List.getD, List.getElem?_eq_getElem hj, Option.getD_some] at this
    simp [isNum]; omega
  unfold decB
  rw [hr, if_neg (by decide), if_neg (by omega), this, if_pos rfl]
theorem decText_length (l : List UInt8) (zs : List Int) : (decText l zs).length = zs.length := by simp [decText]
theorem letterAt_get (l : List UInt8) (zs : List Int) (j : Nat) (hj : j < (decText l zs).length) : (decText l zs)[j] = letterAt l zs j := by
  have hj' : j < zs.length := by simpa [decText] using hj
  simp [decText, letterAt, List.getD, List.getElem?_eq_getElem hj']
theorem letterAt_byte (l : ByteArray) (zs : List Int) (j : Nat) (n : Nat) (hn : n < l.size) (h : zs.getD j 0 = (n : Int)) : letterAt l.data.toList zs j = l[n] := by
  unfold letterAt
  rw [h, Int.toNat_natCast, getD_at l n hn]

set_option maxHeartbeats 1000000 in
theorem decode_calls (l : ByteArray) (ao : Option Addr) (len cap : Nat) (zs : List Int) (w : World) (hl : l.size ≤ maxLen) (hz : IntsAt w ao len zs) :
    Calls Try.prog 19 #[.string l, .slice ao len cap] w fun e w' => DecPost l.data.toList zs w e w' := by
  have hm := hz.short
  unfold maxLen at hm
  have hzl := hz.length
  have hll : l.data.toList.length = l.size := by simp
  obtain ⟨i0, hi, hz0, hz1, hz2⟩ := info_parts info5
  generalize hr : rightB l.data.toList = r
  have HR : Hid (rightB l.data.toList = r) := hr
  clear hr
  have HZ : Hid (IntsAt w ao len zs) := hz
  have HZL : Hid (zs.length = len) := hzl
  clear hz hzl
  cases r with
  | false =>
    have HE : Hid (decB l.data.toList zs = ([], 10)) := by unfold decB; rw [HR.out, if_pos rfl]; exact rfl
    go_enter Try.func19, Try.ntmps19
    go_wp2_with fail
    refine (right_calls l _ hl).mono ?_
    rintro e w1 ⟨rfl, hd⟩
    rw [HR.out]
    have HB : Hid (Below w.heap.size w w1) := below_drewN' (Below.refl _ _) hd
    clear hd
    go_wp2
    go_ret2
    unfold DecPost
    rw [HE.out]
    exact ⟨rfl, HB.out⟩
  | true =>
    by_cases hlong : 65536 < len
    · have HE : Hid (decB l.data.toList zs = ([], 2)) := by unfold decB; rw [HR.out, if_neg (by decide), if_pos (by rw [HZL.out]; omega)]; exact rfl
      go_enter Try.func19, Try.ntmps19
      go_wp2_with fail
      refine (right_calls l _ hl).mono ?_
      rintro e w1 ⟨rfl, hd⟩
      rw [HR.out]
      have HB : Hid (Below w.heap.size w w1) := below_drewN' (Below.refl _ _) hd
      clear hd
      go_wp2
      go_ret2
      unfold DecPost
      rw [HE.out]
      exact ⟨rfl, HB.out⟩
    · have hlong' : len ≤ 65536 := by omega
      clear hlong
      have hdl : decide ((65536 : Int) < (len : Int)) = false := by simp; omega
      go_enter Try.func19, Try.ntmps19
      go_wp2_with fail
      refine (right_calls l _ hl).mono ?_
      rintro e w1 ⟨rfl, hd⟩
      rw [HR.out]
      have HB : Hid (Below w.heap.size w w1) := below_drewN' (Below.refl _ _) hd
      have hsz : w.heap.size ≤ w1.heap.size := HB.out.size
      clear hd
      go_wp2_with (at_make; refine wpList_make_full _ rfl _ _ 41 rfl w.heap.size 5 i0 (.int .u8 0) 1 Try.underlying41 hi hz0 hz1 .i64 .i64 _ _ len rfl rfl rfl rfl (by rw [hz2]; omega) (by unfold maxLen; omega) hsz ?_; intro w2 hown hgrow)
      have HO : Hid (w2.ownsRow w.heap.size 5 1 (.slice (some ⟨w1.heap.size, 0, none⟩) len len) len (madeCells (Value.int .u8 0).cells (len * 1)).toList) := hown
      have HB2 : Hid (Below w.heap.size w w2) := HB.out.grown hgrow hsz (by intro k hk; cases hk)
      clear hown hgrow HB
      generalize w1.heap.size = g at *
      go_loopw [7, 8, 20] (fun _ _ i wr => ∃ k : Nat, k ≤ len ∧ i = .int .i64 k ∧ (∀ j, j < k → 0 ≤ zs.getD j 0 ∧ zs.getD j 0 < (l.data.toList.length : Int)) ∧ FillInv w 5 (fun j => .int .u8 ((letterAt l.data.toList zs j).toNat : Int)) (.int .u8 0) g len k wr) (fun _ _ i _ => len - (intOf i).toNat)
      case atStart => exact ⟨0, Nat.zero_le _, rfl, fun j hj => by omega, FillInv.start rfl HO.out HB2.out⟩
      case round =>
        obtain ⟨k, hk, rfl, hall, hinv⟩ := hrel
        have HA : Hid (∀ j, j < k → 0 ≤ zs.getD j 0 ∧ zs.getD j 0 < (l.data.toList.length : Int)) := hall
        have HI : Hid (FillInv w 5 (fun j => .int .u8 ((letterAt l.data.toList zs j).toNat : Int)) (.int .u8 0) g len k wr) := hinv
        clear hall hinv HO HB2
        by_cases hlt : k < len
        · obtain ⟨b, off, rfl, hcs⟩ := (HZ.out.below HI.out.below).cells (by omega)
          have hc1 := hcs k hlt
          clear hcs
          have hc := HI.out.cell hlt
          have hfz := HI.out.frozen
          generalize hz : zs.getD k 0 = z at hc1
          have HK : Hid (zs.getD k 0 = z) := hz
          clear hz
          by_cases hbad : z < 0 ∨ (l.size : Int) ≤ z
          · have HE : Hid (decB l.data.toList zs = ([], 11)) := decB_bad HR.out (by rw [HZL.out]; omega) k (by rw [HZL.out]; omega) (by rw [HK.out, hll]; exact hbad)
            by_cases hneg : z < 0
            · clear hbad
              go_wp2
              go_ret2
              unfold DecPost
              rw [HE.out]
              exact ⟨rfl, HI.out.below⟩
            · have hge : (l.size : Int) ≤ z := by omega
              clear hbad
              go_wp2
              go_ret2
              unfold DecPost
              rw [HE.out]
              exact ⟨rfl, HI.out.below⟩
          · obtain ⟨n, rfl⟩ := Int.eq_ofNat_of_zero_le (show 0 ≤ z by omega)
            have hn : n < l.size := by omega
            clear hbad
            go_wp2
            go_roundw
            case rel =>
              refine ⟨k + 1, by omega, by go_num, ?_, HI.out.step (by rw [letterAt_byte l zs k n hn HK.out])⟩
              intro j hj
              by_cases e : j = k
              · subst e; rw [HK.out, hll]; omega
              · exact HA.out j (by omega)
            case measure => simp [intOf]; omega
        · have HE : Hid (decB l.data.toList zs = (decText l.data.toList zs, 0)) := decB_all HR.out (by rw [HZL.out]; omega) (fun j hj => HA.out j (by rw [HZL.out] at hj; omega))
          have hconv := HI.out.text (by omega) (decText l.data.toList zs) (by rw [decText_length, HZL.out]) (fun j hj => by rw [letterAt_get])
          go_wp2
          go_ret2
          unfold DecPost
          rw [HE.out]
          exact ⟨rfl, HI.out.below⟩
end Go.Proofs.Ytefngikfidlojaa
