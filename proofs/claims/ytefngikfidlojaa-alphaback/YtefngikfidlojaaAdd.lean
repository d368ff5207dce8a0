/-
  The walks of alpha.Add and helixref01.Add: an alphabet put together of groups.
-/
import Derived.Test.YtefngikfidlojaaDec
namespace Go.Proofs.Ytefngikfidlojaa
open Go.RowKit

/-- A slice of strings that can be read in a world: its elements. -/
structure StrsAt (w : World) (ao : Option Addr) (len : Nat) (ss : List ByteArray) : Prop where
  length : ss.length = len
  short : len ≤ maxLen
  each : ∀ s ∈ ss, s.size ≤ 140737488351232
  cells : 0 < len → ∃ b off, ao = some ⟨b, off, none⟩ ∧ ∀ i, i < len → w.cell? ⟨b, off + i, none⟩ = some (.string (ss.getD i ByteArray.empty))

theorem StrsAt.below {w w' : World} {ao : Option Addr} {len : Nat} {ss : List ByteArray} (h : StrsAt w ao len ss) (hb : Below w.heap.size w w') : StrsAt w' ao len ss := by
  refine ⟨h.length, h.short, h.each, fun h0 => ?_⟩
  obtain ⟨b, off, e, hc⟩ := h.cells h0
  refine ⟨b, off, e, fun i hi => ?_⟩
  have hci := hc i hi
  rw [hb.cell (p := ⟨b, off + i, none⟩) (World.block_lt_of_cell? w _ hci)]
  exact hci

/-- Groups of letters as lists of bytes. -/
def groupsOf (ss : List ByteArray) : List (List UInt8) := ss.map fun s => s.data.toList
/-- What has been put together behind k groups. -/
def gathered (ss : List ByteArray) (k : Nat) : List UInt8 := (groupsOf (ss.take k)).flatten.map capU
def capTake (s : ByteArray) (j : Nat) : List UInt8 := (s.data.toList.take j).map capU
theorem capTake_zero (s : ByteArray) : capTake s 0 = [] := by simp [capTake]
theorem capTake_all (s : ByteArray) (j : Nat) (h : s.size ≤ j) : capTake s j = s.data.toList.map capU := by
  unfold capTake; rw [List.take_of_length_le (by simpa using h)]
theorem capTake_succ (s : ByteArray) (j : Nat) (h : j < s.size) : capTake s (j + 1) = capTake s j ++ [capU s[j]] := by
  unfold capTake; rw [take_snoc s j h]; simp
theorem mk_list (l : List UInt8) : (⟨l.toArray⟩ : ByteArray).data.toList = l := by simp
def byteVals (l : List UInt8) : List Value := l.map fun b => .int .u8 (b.toNat : Int)

theorem gathered_zero (ss : List ByteArray) : gathered ss 0 = [] := by simp [gathered, groupsOf]
theorem gathered_succ (ss : List ByteArray) (k : Nat) (hk : k < ss.length) : gathered ss (k + 1) = gathered ss k ++ (ss.getD k ByteArray.empty).data.toList.map capU := by
  have e : ss.getD k ByteArray.empty = ss[k] := by simp [List.getD, List.getElem?_eq_getElem hk]
  rw [e]
  unfold gathered groupsOf
  rw [List.take_succ_eq_append_getElem hk, List.map_append, List.flatten_append, List.map_append]
  congr 1
  simp
theorem gathered_all (ss : List ByteArray) : gathered ss ss.length = (groupsOf ss).flatten.map capU := by
  simp [gathered]
theorem gathered_le (ss : List ByteArray) (k : Nat) : (gathered ss k).length ≤ (gathered ss ss.length).length := by
  by_cases hk : k ≤ ss.length
  · obtain ⟨d, hd⟩ := Nat.le.dest hk
    have e : gathered ss ss.length = gathered ss k ++ (groupsOf (ss.drop k)).flatten.map capU := by
      rw [gathered_all]
      unfold gathered groupsOf
      rw [← List.map_append, ← List.flatten_append, ← List.map_append, List.take_append_drop]
    rw [e, List.length_append]; omega
  · have : gathered ss k = gathered ss ss.length := by
      unfold gathered; rw [List.take_of_length_le (by omega), List.take_of_length_le (by omega)]
    rw [this]; omega
theorem addB_long (ss : List ByteArray) (k : Nat) (h : 20 < (gathered ss k).length) : addB (groupsOf ss) = ([], 10) := by
  have := gathered_le ss k
  rw [gathered_all] at this
  unfold addB
  rw [if_neg (by rw [rightB_long _ (by omega)]; decide)]

theorem owned_shape {w : World} {base : Nat} {e : TypeId} {size : Nat} {v : Value} {n : Nat} {xs : List Value} (h : w.ownsRow base e size v n xs) : ∃ ao cap, v = .slice ao n cap := by
  rcases h.2 with ⟨rfl, rfl⟩ | ⟨g, cap, _, rfl, _⟩
  · exact ⟨none, 0, rfl⟩
  · exact ⟨some ⟨g, 0, none⟩, cap, rfl⟩

theorem owned_text {w : World} {base : Nat} {ao : Option Addr} {n cap : Nat} {t : List UInt8} (h : w.ownsRow base 5 1 (.slice ao n cap) n (byteVals t)) :
    (convert 41 9 (.slice ao n cap)).run Try.prog w = .ok (.string ⟨t.toArray⟩) w := by
  have hl : t.length = n := by simpa [byteVals] using h.1
  rcases h.2 with ⟨hv, rfl⟩ | ⟨g, cap', cur, hv, hb, hg, _⟩
  · cases hv
    have ht : t = [] := List.eq_nil_of_length_eq_zero hl
    subst ht
    rw [run_convert_bytes_string w 41 9 5 none 0 0 Try.underlying41 Try.underlying5 Try.underlying9]
    rfl
  · cases hv
    subst hl
    refine run_convert_bytes_back w 41 9 5 ⟨g, 0, none⟩ cap t Try.underlying41 Try.underlying5 Try.underlying9 ?_
    intro j hj
    have hadd : (⟨g, 0, none⟩ : Addr).add j = ⟨g, j, none⟩ := by unfold Addr.add; split <;> simp_all
    rw [hadd, h.cellAt j (by omega)]
    simp [byteVals, hj]

def AddPost (ss : List ByteArray) (w : World) (e : Ending) (w' : World) : Prop :=
  e = .returned (.tuple #[.string ⟨(addB (groupsOf ss)).1.toArray⟩, .int .i64 (addB (groupsOf ss)).2]) ∧ Below w.heap.size w w'

theorem capitalAt_calls (s : ByteArray) (k : Nat) (w : World) (hk : k < s.size) :
    Calls Try.prog 27 #[.int .u8 (s[k].toNat : Int)] w fun e w' => e = .returned (.int .u8 ((capU s[k]).toNat : Int)) ∧ w' = w := by
  have hb := UInt8.toNat_lt s[k]
  have h := capital_calls (s[k].toNat : Int) w (by omega) (by omega)
  have hr := capOf_range (s[k].toNat : Int) (by omega) (by omega)
  have e : ((capU s[k]).toNat : Int) = capOf (s[k].toNat : Int) := by unfold capU; exact toUInt8_toNat _ hr.1 hr.2
  rw [e]
  exact h

/-- The head of a round of alpha.Add's inner loop, over a group of letters: j of them are laid. -/
structure AddInv (w : World) (acc : List UInt8) (s : ByteArray) (v : Value) (j : Nat) (wr : World) : Prop where
  own : wr.ownsRow w.heap.size 5 1 v (acc.length + j) (byteVals (acc ++ capTake s j))
  below : Below w.heap.size w wr
theorem AddInv.step {w wr w1 : World} {acc : List UInt8} {s : ByteArray} {v v' : Value} {j : Nat} {o : Obj} (h : AddInv w acc s v j wr) (hj : j < s.size)
    (hown : w1.ownsRow w.heap.size 5 1 v' (acc.length + j + 1) (byteVals (acc ++ capTake s j) ++ [.int .u8 ((capU s[j]).toNat : Int)])) (hg : (wr.alloc o).grownBy w1 v.ownBlock) : AddInv w acc s v' (j + 1) w1 := by
  refine ⟨?_, ?_⟩
  · have e : byteVals (acc ++ capTake s (j + 1)) = byteVals (acc ++ capTake s j) ++ [.int .u8 ((capU s[j]).toNat : Int)] := by
      rw [capTake_succ s j hj]; simp [byteVals]
    rw [e]
    exact hown
  · exact (h.below.alloc h.below.size o).grown hg (by have := h.below.size; simp; omega) (fun k hk => (h.own.lt k hk).1)

set_option maxHeartbeats 1000000 in
theorem add_calls (ao : Option Addr) (len cap : Nat) (ss : List ByteArray) (w : World) (hz : StrsAt w ao len ss) :
    Calls Try.prog 14 #[.slice ao len cap] w fun e w' => AddPost ss w e w' := by
  have hm := hz.short
  unfold maxLen at hm
  have HZL : Hid (ss.length = len) := hz.length
  have HZ : Hid (StrsAt w ao len ss) := hz
  clear hz
  obtain ⟨i0, hi, hz0, hz1, hz2⟩ := info_parts info5
  go_enter Try.func14, Try.ntmps14
  go_wp2
  go_loopw [4, 11] (fun v i wr => ∃ k : Nat, k ≤ len ∧ i = .int .i64 k ∧ (gathered ss k).length ≤ 20 ∧ wr.ownsRow w.heap.size 5 1 v (gathered ss k).length (byteVals (gathered ss k)) ∧ Below w.heap.size w wr) (fun _ i _ => len - (intOf i).toNat)
  case atStart => exact ⟨0, Nat.zero_le _, rfl, by rw [gathered_zero]; decide, by rw [gathered_zero]; exact World.ownsRow_nil _ _ _ _, Below.refl _ _⟩
  case round =>
    obtain ⟨k, hk, rfl, h20, hown, hbel⟩ := hrel
    obtain ⟨vo, vcap, rfl⟩ := owned_shape hown
    have HO : Hid (wr.ownsRow w.heap.size 5 1 (.slice vo (gathered ss k).length vcap) (gathered ss k).length (byteVals (gathered ss k))) := hown
    have HB : Hid (Below w.heap.size w wr) := hbel
    clear hown hbel
    generalize hacc : gathered ss k = acc at *
    have HG : Hid (gathered ss k = acc) := hacc
    clear hacc
    by_cases hlt : k < len
    · obtain ⟨b, off, rfl, hcs⟩ := (HZ.out.below HB.out).cells (by omega)
      have hc1 := hcs k hlt
      clear hcs
      have hsl : (ss.getD k ByteArray.empty).size ≤ 140737488351232 := by
        have hk' : k < ss.length := by rw [HZL.out]; exact hlt
        have := HZ.out.each (ss[k]) (List.getElem_mem hk')
        simpa [List.getD, List.getElem?_eq_getElem hk'] using this
      generalize hs : ss.getD k ByteArray.empty = s at hc1 hsl
      have HS : Hid (gathered ss (k + 1) = acc ++ s.data.toList.map capU) := by
        have := gathered_succ ss k (by rw [HZL.out]; exact hlt)
        rw [hs, HG.out] at this
        exact this
      clear hs
      by_cases hbig : 20 < acc.length + s.size
      · have HE : Hid (addB (groupsOf ss) = ([], 10)) := addB_long ss (k + 1) (by rw [HS.out]; simp; omega)
        go_wp2
        go_ret2
        unfold AddPost
        rw [HE.out]
        exact ⟨rfl, HB.out⟩
      · have hbd : decide ((20 : Int) < (acc.length : Int) + (s.size : Int)) = false := by simp; omega
        go_wp2
        go_loopw [4, 23] (fun v i wr => ∃ j : Nat, j ≤ s.size ∧ i = .int .i64 j ∧ AddInv w acc s v j wr) (fun _ i _ => s.size - (intOf i).toNat)
        case atStart => exact ⟨0, Nat.zero_le _, rfl, by rw [capTake_zero]; simpa using HO.out, HB.out⟩
        case round =>
          obtain ⟨j, hj, rfl, hinv⟩ := hrel
          obtain ⟨vo', vcap', rfl⟩ := owned_shape hinv.own
          have HI : Hid (AddInv w acc s (.slice vo' (acc.length + j) vcap') j wr) := hinv
          have hsz : w.heap.size ≤ wr.heap.size := hinv.below.size
          clear hinv
          by_cases hjl : j < s.size
          · go_wp2_with (first
              | (go_at_call 27; refine (capitalAt_calls s j _ hjl).mono ?_; rintro e w' ⟨rfl, rfl⟩)
              | (at_builtin; go_loud (refine wpList_append_own _ rfl _ _ 41 rfl w.heap.size 5 i0 (.int .u8 0) 1 1 Try.underlying41 hi hz0 hz1 hz2 rfl (by decide) _ _ _ rfl (HI.out.own.alloc _) ⟨_, 0, none⟩ 1 1 [.int .u8 ((capU s[j]).toNat : Int)] rfl rfl ?c1 ?c2 ?c3 ?c4 ?c5 ?_)))
            case c1 =>
              intro i u hu
              match i, hu with
              | 0, hu => simp at hu; subst hu; simp [Addr.add]
            case c2 => intro u hu; simp at hu; subst hu; rfl
            case c3 => unfold maxLen; omega
            case c4 => omega
            case c5 => simp; omega
            intro v' w2 hown' hgrow _
            have R := HI.out.step hjl hown' hgrow
            have HR : Hid (AddInv w acc s v' (j + 1) w2) := R
            clear R hown' hgrow HI
            go_wp2
            go_roundw
            case rel => exact ⟨j + 1, by omega, by go_num, HR.out⟩
            case measure => simp [intOf]; omega
          · have HK : Hid ((gathered ss (k + 1)).length ≤ 20 ∧ wr.ownsRow w.heap.size 5 1 (.slice vo' (acc.length + j) vcap') (gathered ss (k + 1)).length (byteVals (gathered ss (k + 1)))) := by
              have hj' : j = s.size := by omega
              subst hj'
              have ho := HI.out.own
              rw [capTake_all s s.size (Nat.le_refl _), ← HS.out] at ho
              have e : (gathered ss (k + 1)).length = acc.length + s.size := by rw [HS.out]; simp
              rw [e]
              exact ⟨by omega, ho⟩
            go_wp2
            go_roundw
            case rel => exact ⟨k + 1, by omega, by go_num, HK.out.1, HK.out.2, HI.out.below⟩
            case measure => simp [intOf]; omega
    · have hconv := owned_text HO.out
      have HT : Hid (addB (groupsOf ss) = if rightB acc = true then (acc, 0) else ([], 10)) := by
        have e : (groupsOf ss).flatten.map capU = acc := by rw [← HG.out, ← gathered_all, show k = ss.length from by rw [HZL.out]; omega]
        unfold addB
        rw [e]
        exact rfl
      generalize hr : rightB acc = r
      have HR : Hid (rightB acc = r) := hr
      clear hr
      go_wp2_with fail
      refine (right_calls ⟨acc.toArray⟩ _ (by unfold maxLen; have : (⟨acc.toArray⟩ : ByteArray).size = acc.length := rfl; omega)).mono ?_
      rintro e w1 ⟨rfl, hd⟩
      rw [mk_list, HR.out]
      have HB1 : Hid (Below w.heap.size w w1) := below_drewN' HB.out hd
      clear hd
      cases r with
      | false =>
        go_wp2
        go_ret2
        unfold AddPost
        rw [HT.out, HR.out]
        exact ⟨rfl, HB1.out⟩
      | true =>
        go_wp2
        go_ret2
        unfold AddPost
        rw [HT.out, HR.out]
        exact ⟨rfl, HB1.out⟩
end Go.Proofs.Ytefngikfidlojaa
