/-
  AlphaAdds is proved for every input: alpha.Add answers as the document says, for any groups, and the list handed in stays. No condition.
-/
import Derived.Test.YtefngikfidlojaaRows
import Derived.Test.YtefngikfidlojaaBlocks
import Derived.Test.YtefngikfidlojaaAddRef
import Derived.WalkKit
import Derived.ProofKit
import Derived.OpenShut
import Derived.ShutString
import Derived.ChangeOld
import Derived.Below
import Derived.SizedLaws
import Derived.SliceStrings
namespace Go.Proofs.Ytefngikfidlojaa
open Go.RowKit
open Go.ChangeShapes (strs)

theorem info9 : (Try.prog.info? 9).map (fun i => (i.zero, i.size, i.bytes)) = some (some (.string ⟨#[]⟩), 1, 16) := by kernel_rfl
theorem size9 : (Try.prog.info? 9).map (·.size) = some 1 := by kernel_rfl

def strVals (ss : List ByteArray) : List Value := ss.map Value.string
theorem strVals_length (ss : List ByteArray) : (strVals ss).length = ss.length := by simp [strVals]
theorem strVals_one (ss : List ByteArray) : ∀ u ∈ strVals ss, u.oneCell' = true := by
  intro u hu
  obtain ⟨_, _, rfl⟩ := List.mem_map.1 hu
  rfl
theorem StrsAt.source {w : World} {ao : Option Addr} {len : Nat} {ss : List ByteArray} (h : StrsAt w ao len ss) : 0 < (strVals ss).length → ∃ ad, ao = some ad ∧ ∀ j v, (strVals ss)[j]? = some v → w.cell? (ad.add j) = some v := by
  intro hp
  rw [strVals_length, h.length] at hp
  obtain ⟨b, off, rfl, hc⟩ := h.cells hp
  refine ⟨_, rfl, fun j v hv => ?_⟩
  have hj : j < ss.length := by
    have := (List.getElem?_eq_some_iff.1 hv).1
    simpa [strVals] using this
  have hadd : (⟨b, off, none⟩ : Addr).add j = ⟨b, off + j, none⟩ := Go.WideShapes.add_plain ..
  rw [hadd, hc j (by rw [← h.length]; exact hj), ← hv]
  simp [strVals, List.getD, List.getElem?_eq_getElem hj]
theorem made_strs {w : World} {base g n : Nat} (h : w.ownsRow base 9 1 (.slice (some ⟨g, 0, none⟩) n n) n (madeCells #[Value.string ⟨#[]⟩] n).toList) : w.heap[g]? = some (.cells (List.replicate n (Value.string ⟨#[]⟩)).toArray 9 (0, 0)) := by
  rw [toList_madeCells_one] at h
  exact block_owned h
theorem copy_strs (ss : List ByteArray) : (strVals ss).length = Nat.min ss.length (ss.length + 2) := by
  rw [strVals_length]; exact (Nat.min_eq_left (by omega)).symm
theorem splice_strs (ss : List ByteArray) : splice (List.replicate (ss.length + 2) (Value.string ⟨#[]⟩)) 0 (strVals ss) = strVals ss ++ [Value.string ⟨#[]⟩, Value.string ⟨#[]⟩] := by
  unfold splice
  simp [strVals]
theorem set_strs (ss : List ByteArray) (u : Value) : (strVals ss ++ [Value.string ⟨#[]⟩, Value.string ⟨#[]⟩]).set ss.length u = strVals ss ++ [u, Value.string ⟨#[]⟩] := by
  rw [List.set_append_right _ _ (by rw [strVals_length]; exact Nat.le_refl _), strVals_length]
  simp
theorem strs_cell {w : World} {g : Nat} {ss : List ByteArray} {more : List Value} (h : w.heap[g]? = some (.cells (strVals ss ++ more).toArray 9 (0, 0))) (i : Nat) (hi : i < ss.length) : w.cell? ⟨g, i, none⟩ = some (.string (ss.getD i ByteArray.empty)) := by
  refine cell_block h i _ ?_
  rw [List.getElem?_append_left (by simpa [strVals] using hi)]
  simp [strVals, List.getD, List.getElem?_eq_getElem hi]
theorem strs_block {w : World} {g : Nat} {ss : List ByteArray} {more : List Value} (h : w.heap[g]? = some (.cells (strVals ss ++ more).toArray 9 (0, 0))) (hs : ss.length ≤ maxLen) (he : ∀ s ∈ ss, s.size ≤ 140737488351232) : StrsAt w (some ⟨g, 0, none⟩) ss.length ss := by
  refine ⟨rfl, hs, he, fun _ => ⟨g, 0, rfl, fun i hi => ?_⟩⟩
  rw [Nat.zero_add]
  exact strs_cell h i hi

theorem addAt_calls (ao : Option Addr) (len cap : Nat) (ss : List ByteArray) (w : World) (hz : StrsAt w ao len ss) (t : List UInt8) (er : Int) (he : addB (groupsOf ss) = (t, er)) :
    Calls Try.prog 14 #[.slice ao len cap] w fun e w' => e = .returned (.tuple #[.string ⟨t.toArray⟩, .int .i64 er]) ∧ Below w.heap.size w w' := by
  refine (add_calls ao len cap ss w hz).mono ?_
  rintro e w' ⟨h1, h2⟩
  rw [he] at h1
  exact ⟨h1, h2⟩
theorem addRefAt_calls (ao : Option Addr) (len cap : Nat) (ss : List ByteArray) (w : World) (hz : StrsAt w ao len ss) (t : List UInt8) (er : Int) (he : addB (groupsOf ss) = (t, er)) :
    Calls Try.prog 15 #[.slice ao len cap] w fun e w' => e = .returned (.tuple #[.string ⟨t.toArray⟩, .int .i64 er]) ∧ Below w.heap.size w w' := by
  refine (addRef_calls ao len cap ss w hz).mono ?_
  rintro e w' ⟨h1, h2⟩
  rw [he] at h1
  exact ⟨h1, h2⟩

set_option maxHeartbeats 2000000 in
theorem adds_walk (a0 : Option Addr) (len0 cap0 : Nat) (ss : List ByteArray) (w : World) (h1 : StrsAt w a0 len0 ss) :
    Calls Try.prog 4 #[.slice a0 len0 cap0] w fun e w' => e = .returned (.bool true) ∧ Below w.heap.size w w' := by
  obtain ⟨i0, hi, hz0, hz1, hz2⟩ := info_parts info9
  have hm := h1.short
  unfold maxLen at hm
  by_cases hbig : 2147483647 < len0
  · clear h1
    go_enter Try.func4, Try.ntmps4
    go_wp2
    go_ret
    exact ⟨rfl, Below.refl _ _⟩
  · have hlz := h1.length
    subst hlz
    generalize he : addB (groupsOf ss) = r
    obtain ⟨t, er⟩ := r
    have HE : Hid (addB (groupsOf ss) = (t, er)) := he
    have H1 : Hid (StrsAt w a0 ss.length ss) := h1
    have hd0 : decide ((2147483647 : Int) < (ss.length : Int)) = false := by simp; omega
    clear he h1
    go_enter Try.func4, Try.ntmps4
    go_wp2_with fail
    refine (awake_calls _).mono ?_
    rintro e w1 ⟨rfl, hb1⟩
    have HB1 : Hid (Below w.heap.size w w1) := hb1
    have hsz : w.heap.size ≤ w1.heap.size := hb1.size
    clear hb1
    go_wp2_with (at_make; refine wpList_make_full _ rfl _ _ 26 rfl w.heap.size 9 i0 (.string ⟨#[]⟩) 1 Try.underlying26 hi hz0 hz1 .i64 .i64 _ _ (ss.length + 2) rfl rfl (by omega) (by omega) (by rw [hz2]; omega) (by unfold maxLen; omega) hsz ?_)
    intro w2 hown hgrow
    have HG2 : Hid (w2.heap[w1.heap.size]? = some (.cells (List.replicate (ss.length + 2) (Value.string ⟨#[]⟩)).toArray 9 (0, 0))) := made_strs hown
    have HB2 : Hid (Below w.heap.size w w2) := HB1.out.grown hgrow hsz (by intro k hk; cases hk)
    clear hown hgrow
    go_wp2_with (refine wpList_copy_splice rfl (.tmp 18) (.tmp 19) 26 26 rfl 9 Try.underlying26 size9 _ _ _ _ _ _ rfl rfl w1.heap.size 0 _ 9 HG2.out (strVals ss) (copy_strs ss) (fun hp => ⟨rfl, (H1.out.below HB2.out).source hp⟩) (by rw [strVals_length, List.length_replicate]; omega) (strVals_one _) w.heap.size w HB2.out hsz ?_)
    intro w3 hg3 hb3
    have HG3 : Hid (w3.heap[w1.heap.size]? = some (.cells (strVals ss ++ [Value.string ⟨#[]⟩, Value.string ⟨#[]⟩]).toArray 9 (0, 0))) := by
      have := hg3.out
      rwa [splice_strs] at this
    have HB3 : Hid (Below w.heap.size w w3) := hb3
    have hc : w3.cell? ⟨w1.heap.size, ss.length, none⟩ = some (.string ⟨#[]⟩) := cell_block HG3.out _ _ (by simp [strVals])
    have hfz : w3.frozen? ⟨w1.heap.size, ss.length, none⟩ = false := frozen_block HG3.out _
    clear hg3 hb3 HG2 HB2
    go_wp2_with fail
    have HG4 : Hid ((w3.setCell ⟨w1.heap.size, ss.length, none⟩ (.string ⟨#[109, 97, 114, 107]⟩)).heap[w1.heap.size]? = some (.cells (strVals ss ++ [Value.string ⟨#[109, 97, 114, 107]⟩, Value.string ⟨#[]⟩]).toArray 9 (0, 0))) := by
      have := put_block HG3.out ss.length (.string ⟨#[109, 97, 114, 107]⟩)
      rwa [set_strs] at this
    have HB4 : Hid (Below w.heap.size w (w3.setCell ⟨w1.heap.size, ss.length, none⟩ (.string ⟨#[109, 97, 114, 107]⟩))) := HB3.out.setCell (p := ⟨w1.heap.size, ss.length, none⟩) hsz _
    clear HG3 HB3 hc hfz
    refine (addAt_calls _ _ _ ss _ (strs_block HG4.out (by unfold maxLen; omega) H1.out.each) t er HE.out).mono ?_
    rintro e w5 ⟨rfl, hb5⟩
    have HG5 : Hid (w5.heap[w1.heap.size]? = some (.cells (strVals ss ++ [Value.string ⟨#[109, 97, 114, 107]⟩, Value.string ⟨#[]⟩]).toArray 9 (0, 0))) := block_below HG4.out hb5
    have HB5 : Hid (Below w.heap.size w w5) := HB4.out.trans (hb5.mono HB4.out.size)
    clear hb5 HG4 HB4
    go_wp2_with fail
    refine (addRefAt_calls _ _ _ ss _ (H1.out.below HB5.out) t er HE.out).mono ?_
    rintro e w6 ⟨rfl, hb6⟩
    have HG6 : Hid (w6.heap[w1.heap.size]? = some (.cells (strVals ss ++ [Value.string ⟨#[109, 97, 114, 107]⟩, Value.string ⟨#[]⟩]).toArray 9 (0, 0))) := block_below HG5.out hb6
    have HB6 : Hid (Below w.heap.size w w6) := HB5.out.trans (hb6.mono HB5.out.size)
    clear hb6 HG5 HB5
    go_wp2
    generalize w1.heap.size = g at *
    go_loopw [9] (fun i wr => ∃ k : Nat, k ≤ ss.length ∧ i = .int .i64 k ∧ wr.heap[g]? = some (.cells (strVals ss ++ [Value.string ⟨#[109, 97, 114, 107]⟩, Value.string ⟨#[]⟩]).toArray 9 (0, 0)) ∧ Below w.heap.size w wr) (fun i _ => ss.length - (intOf i).toNat)
    case atStart => exact ⟨0, Nat.zero_le _, rfl, HG6.out, HB6.out⟩
    case round =>
      obtain ⟨k, hk, rfl, hgr, hbr⟩ := hrel
      have HG7 : Hid (wr.heap[g]? = some (.cells (strVals ss ++ [Value.string ⟨#[109, 97, 114, 107]⟩, Value.string ⟨#[]⟩]).toArray 9 (0, 0))) := hgr
      have HB7 : Hid (Below w.heap.size w wr) := hbr
      clear hgr hbr HG6 HB6
      by_cases hlt : k < ss.length
      · obtain ⟨b, off, rfl, hcs⟩ := (H1.out.below HB7.out).cells (by omega)
        have hc1 := hcs k hlt
        have hc2 := strs_cell HG7.out k hlt
        clear hcs
        generalize ss.getD k ByteArray.empty = s at hc1 hc2
        go_wp2_with fail
        go_quiet (fail)
        go_wp2
        go_roundw
        case rel => exact ⟨k + 1, by omega, by go_num, HG7.out, below_drewN HB7.out _⟩
        case measure => simp [intOf]; omega
      · have hc1 : wr.cell? ⟨g, ss.length, none⟩ = some (.string ⟨#[109, 97, 114, 107]⟩) := cell_block HG7.out _ _ (by simp [strVals])
        have hc2 : wr.cell? ⟨g, ss.length + 1, none⟩ = some (.string ⟨#[]⟩) := cell_block HG7.out _ _ (by simp [strVals])
        go_wp2
        go_ret
        exact ⟨rfl, HB7.out⟩

theorem strsAt_nil (w : World) : StrsAt w none 0 [] := ⟨rfl, Nat.zero_le _, (fun s hs => by cases hs), (fun h => by omega)⟩
theorem strsAt_open {w : World} {x : Addr} {len cap : Nat} {ss : List ByteArray} (hl : len ≤ cap) (hm : cap ≤ maxLen) (hz : ss.length = cap) (hc : ∀ i, i < ss.length → w.cell? (x.add i) = some (.string (ss.getD i ByteArray.empty))) (he : ∀ s ∈ ss.take len, s.size ≤ 140737488351232) : StrsAt w (some x) len (ss.take len) := by
  refine ⟨by rw [List.length_take]; omega, Nat.le_trans hl hm, he, fun h0 => ?_⟩
  obtain ⟨b, off, spot⟩ := x
  have hspot : spot = none := by simpa [Addr.add] using World.cell?_spot (hc 0 (by omega))
  subst hspot
  refine ⟨b, off, rfl, fun i hi => ?_⟩
  have h := hc i (by omega)
  rw [Go.WideShapes.add_plain] at h
  rw [h]
  have e : (ss.take len).getD i ByteArray.empty = ss.getD i ByteArray.empty := by simp [List.getD, hi]
  rw [e]
theorem strs_weights {H : Type} (e : TypeId) : ∀ (l : List ByteArray) (s : ByteArray), s ∈ l → s.data.toList.length ∈ DataW.weightsAll (H := H) Try.prog e (strs l)
  | [], _, h => by cases h
  | b :: l, s, h => by
    simp only [strs, List.map_cons, DataW.weightsAll, DataW.weights, List.mem_append, List.mem_singleton]
    rcases List.mem_cons.1 h with rfl | h
    · exact .inl rfl
    · exact .inr (strs_weights e l s h)
theorem strs_each {H : Type} {ts : List TypeId} {ds : List (DataW H)} {a b : List ByteArray} (h : (DataW.weightsEach Try.prog ts ds).all (· ≤ reachBytes) = true) (ht : ts[0]? = some 26) (hd : ds[0]? = some (.slice (strs a) (strs b))) : ∀ s ∈ a, s.size ≤ 140737488351232 := by
  intro s hs
  have hm : s.data.toList.length ∈ DataW.weights Try.prog 26 (DataW.slice (strs (H := H) a) (strs b)) := by
    simp only [DataW.weights, Try.underlying26]
    exact List.mem_cons_of_mem _ (List.mem_append_left _ (strs_weights 9 a s hs))
  have hw : s.data.toList.length ≤ reachBytes := of_decide_eq_true (List.all_eq_true.1 h _ (DataW.weights_mem_each ht hd _ hm))
  unfold reachBytes at hw
  have e : s.data.toList.length = s.size := by simp
  omega

namespace alphaAdds
open Go.ChangeShapes Go.WideShapes Go.ChangeAt Go.RowKit
theorem own : ownKnob Try.prog.godebug = none := by kernel_rfl
theorem laidOut : laidOutB Try.prog = true := by kernel_rfl

set_option maxRecDepth 100000 in
theorem lifted (os : Os) (started : os.Started) (H : Type) (enc : TypeId × Value → H) :
    ReturnsInHanded {} Try.checked os 4 .any (Rows.alphaAddsSpec.pre6 enc Try.prog Try.f4 Rows.alphaAddsRow.domain false) (Rows.alphaAddsSpec.post enc Try.prog Try.f4 false true false false) := by
  refine returnsInHanded_of_change_sized (C := Try.checked) own started (by kernel_rfl) Try.func4
    (ChangeSpec.witness6 (enc := enc) (C := Try.checked) false ⟨#[], #[.slice none 0 0], []⟩ 8 (by kernel_rfl) (by kernel_rfl) (by kernel_rfl) (by kernel_rfl)) ?_
  intro W base args ds gs before hval0 hW _ hsz0 _
  have hval : ∀ (j : Nat) t v, Try.f4.params[j]? = some t → args[j]? = some v → Value.okWide Try.prog W .any base t v := hval0
  have hsz : (DataW.weightsEach Try.prog (Try.f4.params.toList ++ Rows.alphaAddsSpec.plain.varTypes Try.prog) (ds ++ gs)).all (· ≤ reachBytes) = true := hsz0
  have hW' := hW
  obtain ⟨p, q, hA0, hV, rfl, hfz, hnd⟩ := hW
  have hA : DataW.TrodAll enc Try.prog W 0 (fun _ => true) true Try.f4.params.toList args.toList ds p := hA0
  rw [Try.params4] at hA hval hsz
  obtain ⟨v0, vs0, d0, ds0, p0, q0, hargs, rfl, rfl, h0, r0⟩ := trodAll_cons hA
  obtain ⟨rfl, rfl, rfl⟩ := trodAll_nil r0
  obtain rfl : args = #[v0] := by cases args; simp_all
  obtain ⟨rfl, rfl⟩ := trodVars_none hV
  obtain ⟨a0, len0, cap0, rfl⟩ := okWide_slice Try.underlying26 (hval 0 26 v0 rfl rfl)
  have k0 := h0
  have lt0 : ∀ x ∈ p0, x.block < W.heap.size := by obtain ⟨m, hm⟩ := k0; exact DataW.trod_lt m _ _ _ hm
  obtain ⟨z0, w0⟩ : ∃ zs, StrsAt W a0 len0 zs := by
    obtain ⟨fuel, hf⟩ := h0
    rcases open_strings Try.underlying26 Try.underlying9 (by kernel_rfl) hf with ⟨hcs, _⟩ | ⟨x, l, c, zs, hcs, _, hl, hm, hz, hx, hcell, _⟩
    · simp [Value.cells] at hcs
      obtain ⟨rfl, rfl, rfl⟩ := hcs
      exact ⟨[], strsAt_nil _⟩
    · simp [Value.cells] at hcs
      obtain ⟨rfl, rfl, rfl⟩ := hcs
      have hd := (Prod.mk.inj hx).1
      subst hd
      exact ⟨_, strsAt_open hl hm (by simpa using hz) hcell (strs_each hsz rfl rfl)⟩
  clear hA0 hval0
  refine (adds_walk a0 len0 cap0 z0 W w0).mono fun e W' ⟨he, bel⟩ => ?_
  subst he
  exact ⟨_, rfl, _, _, _, [], _, [], hW', trodAll_mk1 (shut_bool Try.underlying4 _), (trodAll_cons_mk (Below.trod laidOut (by kernel_rfl) (of_decide_eq_true (by kernel_rfl)) k0 bel lt0) trodAll_mk0), rfl, bel.frame _, fun h => by cases h⟩
end alphaAdds

theorem alphaAdds_holds : Rows.AlphaAddsSaid :=
  OpenClaim.holds_of_wide 4 Try.f4 rfl rfl rfl rfl rfl rfl rfl ⟨rfl, rfl, rfl, rfl, rfl⟩ rfl rfl rfl rfl rfl (by kernel_rfl) Try.func4 (by kernel_rfl)
    (of_decide_eq_true (by kernel_rfl)) (by unfold Func.isWrapper; first | (rw [if_pos (by decide +kernel)]; kernel_rfl) | (rw [if_neg (by decide +kernel)]; exact ⟨rfl, rfl⟩))
    (fun os started H enc _ => alphaAdds.lifted os started H enc)
end Go.Proofs.Ytefngikfidlojaa
