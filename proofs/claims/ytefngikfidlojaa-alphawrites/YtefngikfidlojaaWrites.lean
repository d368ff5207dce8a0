/-
  AlphaWrites is proved for every input: alpha.Decode answers as the document says, for every alphabet and any numbers, and the list handed in stays. No condition.
-/
import Derived.Test.YtefngikfidlojaaRows
import Derived.Test.YtefngikfidlojaaBlocks
import Derived.WalkKit
import Derived.ProofKit
import Derived.OpenShut
import Derived.ShutString
import Derived.ChangeOld
import Derived.Below
import Derived.Laws.CopyOwn
namespace Go.Proofs.Ytefngikfidlojaa
open Go.RowKit

def intVals (zs : List Int) : List Value := zs.map (Value.int .i64)
theorem intVals_length (zs : List Int) : (intVals zs).length = zs.length := by simp [intVals]
theorem ints_block {w : World} {g : Nat} {zs : List Int} {more : List Value} (h : w.heap[g]? = some (.cells (intVals zs ++ more).toArray 3 (0, 0))) (hs : zs.length ≤ maxLen) : IntsAt w (some ⟨g, 0, none⟩) zs.length zs := by
  refine ⟨rfl, hs, fun _ => ⟨g, 0, rfl, fun i hi => ?_⟩⟩
  rw [Nat.zero_add]
  refine cell_block h i _ ?_
  rw [List.getElem?_append_left (by simpa [intVals] using hi)]
  simp [intVals, List.getD, List.getElem?_eq_getElem hi]

theorem decodeAt_calls (l : ByteArray) (ao : Option Addr) (len cap : Nat) (zs : List Int) (w : World) (hl : l.size ≤ maxLen) (hz : IntsAt w ao len zs) (t : List UInt8) (er : Int) (he : decB l.data.toList zs = (t, er)) :
    Calls Try.prog 19 #[.string l, .slice ao len cap] w fun e w' => e = .returned (.tuple #[.string ⟨t.toArray⟩, .int .i64 er]) ∧ Below w.heap.size w w' := by
  refine (decode_calls l ao len cap zs w hl hz).mono ?_
  rintro e w' ⟨h1, h2⟩
  rw [he] at h1
  exact ⟨h1, h2⟩
theorem decodeRefAt_calls (l : ByteArray) (ao : Option Addr) (len cap : Nat) (zs : List Int) (w : World) (hl : l.size ≤ maxLen) (hz : IntsAt w ao len zs) (t : List UInt8) (er : Int) (he : decB l.data.toList zs = (t, er)) :
    Calls Try.prog 20 #[.string l, .slice ao len cap] w fun e w' => e = .returned (.tuple #[.string ⟨t.toArray⟩, .int .i64 er]) ∧ Below w.heap.size w w' := by
  refine (decodeRef_calls l ao len cap zs w hl hz).mono ?_
  rintro e w' ⟨h1, h2⟩
  rw [he] at h1
  exact ⟨h1, h2⟩

theorem IntsAt.source {w : World} {ao : Option Addr} {len : Nat} {zs : List Int} (h : IntsAt w ao len zs) : 0 < (intVals zs).length → ∃ ad, ao = some ad ∧ ∀ j v, (intVals zs)[j]? = some v → w.cell? (ad.add j) = some v := by
  intro hp
  rw [intVals_length, h.length] at hp
  obtain ⟨b, off, rfl, hc⟩ := h.cells hp
  refine ⟨_, rfl, fun j v hv => ?_⟩
  have hj : j < zs.length := by
    have := (List.getElem?_eq_some_iff.1 hv).1
    simpa [intVals] using this
  have hadd : (⟨b, off, none⟩ : Addr).add j = ⟨b, off + j, none⟩ := Go.WideShapes.add_plain ..
  rw [hadd, hc j (by rw [← h.length]; exact hj), ← hv]
  simp [intVals, List.getD, List.getElem?_eq_getElem hj]
theorem size3 : (Try.prog.info? 3).map (·.size) = some 1 := by kernel_rfl
theorem splice_made (zs : List Int) : splice (List.replicate (zs.length + 2) (Value.int .i64 0)) 0 (intVals zs) = intVals zs ++ [.int .i64 0, .int .i64 0] := by
  unfold splice
  simp [intVals]

theorem made_block {w : World} {base g n : Nat} (h : w.ownsRow base 3 1 (.slice (some ⟨g, 0, none⟩) n n) n (madeCells #[Value.int .i64 0] n).toList) : w.heap[g]? = some (.cells (List.replicate n (Value.int .i64 0)).toArray 3 (0, 0)) := by
  rw [toList_madeCells_one] at h
  exact block_owned h
theorem copy_len (zs : List Int) : (intVals zs).length = Nat.min zs.length (zs.length + 2) := by
  rw [intVals_length]; exact (Nat.min_eq_left (by omega)).symm

theorem set_mark (zs : List Int) : (intVals zs ++ [Value.int .i64 0, Value.int .i64 0]).set zs.length (.int .i64 (-77)) = intVals zs ++ [Value.int .i64 (-77), Value.int .i64 0] := by
  rw [List.set_append_right _ _ (by rw [intVals_length]; exact Nat.le_refl _), intVals_length]
  simp

set_option maxHeartbeats 2000000 in
theorem writes_walk (a0 : ByteArray) (a1 : Option Addr) (len1 cap1 : Nat) (z1 : List Int) (w : World) (h0 : a0.size ≤ maxLen) (h1 : IntsAt w a1 len1 z1) :
    Calls Try.prog 6 #[.string a0, .slice a1 len1 cap1] w fun e w' => e = .returned (.bool true) ∧ Below w.heap.size w w' := by
  obtain ⟨i0, hi, hz0, hz1, hz2⟩ := info_parts info3
  have hm := h1.short
  unfold maxLen at hm
  by_cases hbig : 2147483647 < len1
  · clear h1
    go_enter Try.func6, Try.ntmps6
    go_wp2
    go_ret
    exact ⟨rfl, Below.refl _ _⟩
  · have hlz := h1.length
    subst hlz
    generalize he : decB a0.data.toList z1 = r
    obtain ⟨t, er⟩ := r
    have HE : Hid (decB a0.data.toList z1 = (t, er)) := he
    have H1 : Hid (IntsAt w a1 z1.length z1) := h1
    have hal := alike_refl z1
    clear he h1
    go_enter Try.func6, Try.ntmps6
    go_wp2_with fail
    refine (awake_calls _).mono ?_
    rintro e w1 ⟨rfl, hb1⟩
    have HB1 : Hid (Below w.heap.size w w1) := hb1
    have hsz : w.heap.size ≤ w1.heap.size := hb1.size
    clear hb1
    go_wp2_with (at_make; refine wpList_make_full _ rfl _ _ 32 rfl w.heap.size 3 i0 (.int .i64 0) 1 Try.underlying32 hi hz0 hz1 .i64 .i64 _ _ (z1.length + 2) rfl rfl (by omega) (by omega) (by rw [hz2]; omega) (by unfold maxLen; omega) hsz ?_)
    intro w2 hown hgrow
    have HG2 : Hid (w2.heap[w1.heap.size]? = some (.cells (List.replicate (z1.length + 2) (Value.int .i64 0)).toArray 3 (0, 0))) := made_block hown
    have HB2 : Hid (Below w.heap.size w w2) := HB1.out.grown hgrow hsz (by intro k hk; cases hk)
    clear hown hgrow
    go_wp2_with (refine wpList_copy_splice rfl (.tmp 20) (.tmp 21) 32 32 rfl 3 Try.underlying32 size3 _ _ _ _ _ _ rfl rfl w1.heap.size 0 _ 3 HG2.out (intVals z1) (copy_len z1) (fun hp => ⟨rfl, (H1.out.below HB2.out).source hp⟩) (by rw [intVals_length, List.length_replicate]; omega) (ints_oneCell _ _) w.heap.size w HB2.out hsz ?_)
    intro w3 hg3 hb3
    have HG3 : Hid (w3.heap[w1.heap.size]? = some (.cells (intVals z1 ++ [Value.int .i64 0, Value.int .i64 0]).toArray 3 (0, 0))) := by
      have := hg3.out
      rwa [splice_made] at this
    have HB3 : Hid (Below w.heap.size w w3) := hb3
    have hc : w3.cell? ⟨w1.heap.size, z1.length, none⟩ = some (.int .i64 0) := cell_block HG3.out _ _ (by simp [intVals])
    have hfz : w3.frozen? ⟨w1.heap.size, z1.length, none⟩ = false := frozen_block HG3.out _
    clear hg3 hb3 HG2 HB2
    go_wp2_with fail
    have HG4 : Hid ((w3.setCell ⟨w1.heap.size, z1.length, none⟩ (.int .i64 (-77))).heap[w1.heap.size]? = some (.cells (intVals z1 ++ [Value.int .i64 (-77), Value.int .i64 0]).toArray 3 (0, 0))) := by
      have := put_block HG3.out z1.length (.int .i64 (-77))
      rwa [set_mark] at this
    have HB4 : Hid (Below w.heap.size w (w3.setCell ⟨w1.heap.size, z1.length, none⟩ (.int .i64 (-77)))) := HB3.out.setCell (p := ⟨w1.heap.size, z1.length, none⟩) hsz _
    clear HG3 HB3 hc hfz
    refine (decodeAt_calls a0 _ _ _ z1 _ h0 (ints_block HG4.out (by unfold maxLen; omega)) t er HE.out).mono ?_
    rintro e w5 ⟨rfl, hb5⟩
    have HG5 : Hid (w5.heap[w1.heap.size]? = some (.cells (intVals z1 ++ [Value.int .i64 (-77), Value.int .i64 0]).toArray 3 (0, 0))) := block_below HG4.out hb5
    have HB5 : Hid (Below w.heap.size w w5) := HB4.out.trans (hb5.mono HB4.out.size)
    clear hb5 HG4 HB4
    go_wp2_with fail
    refine (decodeRefAt_calls a0 _ _ _ z1 _ h0 (H1.out.below HB5.out) t er HE.out).mono ?_
    rintro e w6 ⟨rfl, hb6⟩
    have HG6 : Hid (w6.heap[w1.heap.size]? = some (.cells (intVals z1 ++ [Value.int .i64 (-77), Value.int .i64 0]).toArray 3 (0, 0))) := block_below HG5.out hb6
    have HB6 : Hid (Below w.heap.size w w6) := HB5.out.trans (hb6.mono HB5.out.size)
    clear hb6 HG5 HB5
    go_wp2_with fail
    refine (same_calls _ _ _ _ _ _ z1 z1 _ (ints_block HG6.out (by unfold maxLen; omega)) (H1.out.below HB6.out)).mono ?_
    rintro e w7 ⟨rfl, hd⟩
    have hc7 : w7.cell? ⟨w1.heap.size, z1.length, none⟩ = some (.int .i64 (-77)) := by
      obtain ⟨n, rfl⟩ := hd
      exact cell_block HG6.out _ _ (by simp [intVals])
    have hc8 : w7.cell? ⟨w1.heap.size, z1.length + 1, none⟩ = some (.int .i64 0) := by
      obtain ⟨n, rfl⟩ := hd
      exact cell_block HG6.out _ _ (by simp [intVals])
    have HB7 : Hid (Below w.heap.size w w7) := below_drewN' HB6.out hd
    clear hd HG6 HB6
    rw [hal]
    go_wp2
    go_ret
    exact ⟨rfl, HB7.out⟩

namespace alphaWrites
open Go.ChangeShapes Go.WideShapes Go.ChangeAt Go.RowKit
open Go.ChangeMaps (open_string shut_string)
theorem own : ownKnob Try.prog.godebug = none := by kernel_rfl
theorem laidOut : laidOutB Try.prog = true := by kernel_rfl

set_option maxRecDepth 100000 in
theorem lifted (os : Os) (started : os.Started) (H : Type) (enc : TypeId × Value → H) :
    ReturnsInHanded {} Try.checked os 6 .any (Rows.alphaWritesSpec.pre6 enc Try.prog Try.f6 Rows.alphaWritesRow.domain false) (Rows.alphaWritesSpec.post enc Try.prog Try.f6 false true false false) := by
  refine returnsInHanded_of_change (C := Try.checked) own started (by kernel_rfl) Try.func6
    (ChangeSpec.witness6 (enc := enc) (C := Try.checked) false ⟨#[], #[.string ByteArray.empty, .slice none 0 0], []⟩ 8 (by kernel_rfl) (by kernel_rfl) (by kernel_rfl) (by kernel_rfl)) ?_
  intro W base args ds gs before hval0 hW _ _
  have hval : ∀ (j : Nat) t v, Try.f6.params[j]? = some t → args[j]? = some v → Value.okWide Try.prog W .any base t v := hval0
  have hW' := hW
  obtain ⟨p, q, hA0, hV, rfl, hfz, hnd⟩ := hW
  have hA : DataW.TrodAll enc Try.prog W 0 (fun _ => true) true Try.f6.params.toList args.toList ds p := hA0
  rw [Try.params6] at hA hval
  obtain ⟨v0, vs0, d0, ds0, p0, q0, hargs, rfl, rfl, h0, r0⟩ := trodAll_cons hA
  obtain ⟨v1, vs1, d1, ds1, p1, q1, rfl, rfl, rfl, h1, r1⟩ := trodAll_cons r0
  obtain ⟨rfl, rfl, rfl⟩ := trodAll_nil r1
  obtain rfl : args = #[v0, v1] := by cases args; simp_all
  obtain ⟨rfl, rfl⟩ := trodVars_none hV
  obtain ⟨a0, rfl, rfl, rfl, w0⟩ := open_string Try.underlying9 (hval 0 9 v0 rfl rfl) h0
  obtain ⟨a1, len1, cap1, rfl⟩ := okWide_slice Try.underlying32 (hval 1 32 v1 rfl rfl)
  have k1 := h1
  have lt1 : ∀ x ∈ p1, x.block < W.heap.size := by obtain ⟨m, hm⟩ := k1; exact DataW.trod_lt m _ _ _ hm
  obtain ⟨z1, w1⟩ : ∃ zs, IntsAt W a1 len1 zs := by
    obtain ⟨fuel, hf⟩ := h1
    rcases open_ints Try.underlying32 Try.underlying3 (by kernel_rfl) hf with ⟨hcs, _⟩ | ⟨x, l, c, zs, hcs, _, hl, hm, hz, _, hcell, _⟩
    · simp [Value.cells] at hcs
      obtain ⟨rfl, rfl, rfl⟩ := hcs
      exact ⟨[], intsAt_nil _⟩
    · simp [Value.cells] at hcs
      obtain ⟨rfl, rfl, rfl⟩ := hcs
      exact ⟨_, intsAt_open hl hm (by simpa using hz) hcell⟩
  clear hA0 hval0
  refine (writes_walk a0 a1 len1 cap1 z1 W w0 w1).mono fun e W' ⟨he, bel⟩ => ?_
  subst he
  exact ⟨_, rfl, _, _, _, [], _, [], hW', trodAll_mk1 (shut_bool Try.underlying4 _), (trodAll_cons_mk (shut_string Try.underlying9 w0) (trodAll_cons_mk (Below.trod laidOut (by kernel_rfl) (of_decide_eq_true (by kernel_rfl)) k1 bel lt1) trodAll_mk0)), rfl, bel.frame _, fun h => by cases h⟩
end alphaWrites

theorem alphaWrites_holds : Rows.AlphaWritesSaid :=
  OpenClaim.holds_of_wide 6 Try.f6 rfl rfl rfl rfl rfl rfl rfl ⟨rfl, rfl, rfl, rfl, rfl⟩ rfl rfl rfl rfl rfl (by kernel_rfl) Try.func6 (by kernel_rfl)
    (of_decide_eq_true (by kernel_rfl)) (by unfold Func.isWrapper; first | (rw [if_pos (by decide +kernel)]; kernel_rfl) | (rw [if_neg (by decide +kernel)]; exact ⟨rfl, rfl⟩))
    (fun os started H enc _ => alphaWrites.lifted os started H enc)
end Go.Proofs.Ytefngikfidlojaa
