/-
  AlphaReads is proved for every input: alpha.Encode answers as the document says, for every alphabet and every text, twice, in lists apart. No condition.
-/
import Derived.Test.YtefngikfidlojaaRows
import Derived.Test.YtefngikfidlojaaLists
import Derived.WalkKit
import Derived.ProofKit
import Derived.OpenShut
import Derived.ShutString
import Derived.ChangeOld
import Derived.Below
namespace Go.Proofs.Ytefngikfidlojaa
open Go.RowKit

/-- Two rows of the call's own, the first laid ahead of block B, the second behind it. -/
structure Two (w : World) (b1 B n m : Nat) (v1 v2 : Value) (ys : List Value) (wr : World) : Prop where
  first : ∃ xs, wr.ownsRow b1 3 1 v1 n xs
  ahead : ∀ k, v1.ownBlock = some k → k < B
  second : wr.ownsRow B 3 1 v2 m ys
  base : w.heap.size ≤ b1
  room : b1 ≤ wr.heap.size
  below : Below w.heap.size w wr

theorem Two.drewn {w wr w4 : World} {b1 B n m : Nat} {v1 v2 : Value} {ys : List Value} (h : Two w b1 B n m v1 v2 ys wr) (hd : ∃ n, w4 = wr.drewN n) : Two w b1 B n m v1 v2 ys w4 := by
  obtain ⟨d, rfl⟩ := hd
  have hb : Below wr.heap.size wr (wr.drewN d) := below_drewN (Below.refl _ _) d
  obtain ⟨xs, hx⟩ := h.first
  exact ⟨⟨xs, owned_below_all hx hb⟩, h.ahead, owned_below_all h.second hb, h.base, h.room, below_drewN h.below d⟩
theorem Two.put {w wr : World} {b1 B n m cap g k : Nat} {v2 : Value} {ys : List Value} (h : Two w b1 B n m (.slice (some ⟨g, 0, none⟩) n cap) v2 ys wr) (u : Value) : Two w b1 B n m (.slice (some ⟨g, 0, none⟩) n cap) v2 ys (wr.setCell ⟨g, k, none⟩ u) := by
  obtain ⟨xs, hx⟩ := h.first
  refine ⟨⟨_, (hx.stored k u).1⟩, h.ahead, ownsRow_setCell_below h.second (by exact h.ahead g rfl) u, h.base, by simpa [World.setCell] using h.room, h.below.setCell (p := ⟨g, k, none⟩) ?_ u⟩
  exact Nat.le_trans h.base (hx.lt g rfl).1
theorem Two.grown {w wr w1 : World} {b1 B n m : Nat} {v1 v2 : Value} {ys : List Value} {o : Obj} (h : Two w b1 B n m v1 v2 ys wr) (hg : (wr.alloc o).grownBy w1 v1.ownBlock) : w1.ownsRow B 3 1 v2 m ys ∧ Below w.heap.size w w1 := by
  constructor
  · refine (h.second.alloc o).kept hg ?_
    cases hv : v2.ownBlock with
    | none => exact .inl rfl
    | some k =>
      right
      intro e
      have h1 := h.ahead k e.symm
      have h2 := (h.second.lt k hv).1
      omega
  · obtain ⟨xs, hx⟩ := h.first
    exact (h.below.alloc h.below.size o).grown hg (by have := h.below.size; simp; omega) (fun k hk => Nat.le_trans h.base (hx.lt k hk).1)

set_option maxHeartbeats 2000000 in
theorem reads_walk (a0 a1 : ByteArray) (w : World) (w0 : a0.size ≤ maxLen) (w1 : a1.size ≤ maxLen) :
    Calls Try.prog 5 #[.string a0, .string a1] w fun e w' => e = .returned (.bool true) ∧ Below w.heap.size w w' := by
  obtain ⟨i0, hi, hz0, hz1, hz2⟩ := info_parts info3
  have hlen := encB_short a0.data.toList a1.data.toList
  generalize he : encB a0.data.toList a1.data.toList = r at hlen
  obtain ⟨ns, pl, er⟩ := r
  have HE : Hid (encB a0.data.toList a1.data.toList = (ns, pl, er)) := he
  have hns : ns.length ≤ 65536 := hlen
  clear he hlen
  have hal := alike_refl ns
  go_enter Try.func5, Try.ntmps5
  go_wp2_with fail
  refine (awake_calls _).mono ?_
  rintro e w1 ⟨rfl, hb1⟩
  have HB1 : Hid (Below w.heap.size w w1) := hb1
  clear hb1
  go_wp2_with fail
  refine (encodeAt_calls a0 a1 _ w0 (by assumption) ns pl er HE.out).mono ?_
  rintro e w2 ⟨vo, vcap, rfl, ho2, hb2⟩
  have HO2 : Hid (w2.ownsRow w1.heap.size 3 1 (.slice vo ns.length vcap) ns.length (ns.map (Value.int .i64))) := ho2
  have HB2 : Hid (Below w.heap.size w w2) := HB1.out.trans (hb2.mono HB1.out.size)
  have HS1 : Hid (w.heap.size ≤ w1.heap.size) := HB1.out.size
  have HS2 : Hid (w1.heap.size ≤ w2.heap.size) := hb2.size
  clear hb2 ho2 HB1
  go_wp2_with fail
  refine (encodeRefAt_calls a0 a1 _ w0 (by assumption) ns pl er HE.out).mono ?_
  rintro e w3 ⟨mo, mcap, rfl, ho3, hb3⟩
  have HT : Hid (Two w w1.heap.size w2.heap.size ns.length ns.length (.slice vo ns.length vcap) (.slice mo ns.length mcap) (ns.map (Value.int .i64)) w3) :=
    ⟨⟨_, owned_below_all HO2.out hb3⟩, fun k hk => (HO2.out.lt k hk).2, ho3, HS1.out, Nat.le_trans HS2.out hb3.size, HB2.out.trans (hb3.mono HB2.out.size)⟩
  have HO3 : Hid (w3.ownsRow w1.heap.size 3 1 (.slice vo ns.length vcap) ns.length (ns.map (Value.int .i64))) := owned_below_all HO2.out hb3
  clear ho3 hb3 HO2 HB2 HS1 HS2
  go_wp2_with fail
  refine (same_calls _ _ _ _ _ _ ns ns _ (intsAt_owned HO3.out) (intsAt_owned HT.out.second)).mono ?_
  rintro e w4 ⟨rfl, hd⟩
  have HT4 : Hid (Two w w1.heap.size w2.heap.size ns.length ns.length (.slice vo ns.length vcap) (.slice mo ns.length mcap) (ns.map (Value.int .i64)) w4) := HT.out.drewn hd
  clear hd HT HO3
  rw [hal]
  go_wp2
  go_loopw [13] (fun i wr => ∃ k : Nat, k ≤ ns.length ∧ i = .int .i64 k ∧ Two w w1.heap.size w2.heap.size ns.length ns.length (.slice vo ns.length vcap) (.slice mo ns.length mcap) (ns.map (Value.int .i64)) wr) (fun i _ => ns.length - (intOf i).toNat)
  case atStart => exact ⟨0, Nat.zero_le _, rfl, HT4.out⟩
  case round =>
    obtain ⟨k, hk, rfl, htwo⟩ := hrel
    have HT5 : Hid (Two w w1.heap.size w2.heap.size ns.length ns.length (.slice vo ns.length vcap) (.slice mo ns.length mcap) (ns.map (Value.int .i64)) wr) := htwo
    clear htwo HT4
    by_cases hlt : k < ns.length
    · obtain ⟨xs, hx⟩ := HT5.out.first
      obtain ⟨g, rfl⟩ : ∃ g, vo = some ⟨g, 0, none⟩ := by
        rcases hx.2 with ⟨_, h0⟩ | ⟨g, cap, cur, hv, _⟩
        · omega
        · cases hv; exact ⟨g, rfl⟩
      have hc : ∃ u, wr.cell? ⟨g, k, none⟩ = some u := by
        rw [hx.cellAt k (by omega)]
        have : k < xs.length := by rw [hx.1]; omega
        exact ⟨_, List.getElem?_eq_getElem this⟩
      obtain ⟨u, hc⟩ := hc
      have hfz := hx.frozenAt k
      clear hx
      go_wp2
      go_roundw
      case rel => exact ⟨k + 1, by omega, by go_num, HT5.out.put _⟩
      case measure => simp [intOf]; omega
    · obtain ⟨xs, hx⟩ := HT5.out.first
      have HX : Hid (wr.ownsRow w1.heap.size 3 1 (.slice vo ns.length vcap) ns.length xs) := hx
      have hb1 : w1.heap.size ≤ wr.heap.size := HT5.out.room
      clear hx
      go_wp2_with (at_builtin; refine wpList_append_own _ rfl _ _ 32 rfl w1.heap.size 3 i0 (.int .i64 0) 1 8 Try.underlying32 hi hz0 hz1 hz2 rfl (by decide) _ _ _ rfl (HX.out.alloc _) ⟨_, 0, none⟩ 1 1 [.int .i64 (-6)] rfl rfl ?c1 ?c2 ?c3 ?c4 ?c5 ?_)
      case c1 =>
        intro i u hu
        match i, hu with
        | 0, hu => simp at hu; subst hu; simp [Addr.add]
      case c2 => intro u hu; simp at hu; subst hu; rfl
      case c3 => unfold maxLen; omega
      case c4 => omega
      case c5 => simp; omega
      intro v' w5 _ hgrow _
      have HM : Hid (w5.ownsRow w2.heap.size 3 1 (.slice mo ns.length mcap) ns.length (ns.map (Value.int .i64)) ∧ Below w.heap.size w w5) := HT5.out.grown hgrow
      clear hgrow HT5 HX
      go_wp2_with fail
      refine (encodeAt_calls a0 a1 _ w0 (by assumption) ns pl er HE.out).mono ?_
      rintro e w6 ⟨no, ncap, rfl, ho6, hb6⟩
      have HO6 : Hid (w6.ownsRow w5.heap.size 3 1 (.slice no ns.length ncap) ns.length (ns.map (Value.int .i64))) := ho6
      have HM6 : Hid (w6.ownsRow w2.heap.size 3 1 (.slice mo ns.length mcap) ns.length (ns.map (Value.int .i64))) := owned_below_all HM.out.1 hb6
      have HB6 : Hid (Below w.heap.size w w6) := HM.out.2.trans (hb6.mono HM.out.2.size)
      clear ho6 hb6 HM
      go_wp2_with fail
      refine (same_calls _ _ _ _ _ _ ns ns _ (intsAt_owned HO6.out) (intsAt_owned HM6.out)).mono ?_
      rintro e w7 ⟨rfl, hd⟩
      have HB7 : Hid (Below w.heap.size w w7) := below_drewN' HB6.out hd
      clear hd HO6 HM6 HB6
      rw [hal]
      go_wp2
      go_ret
      exact ⟨rfl, HB7.out⟩

namespace alphaReads
open Go.ChangeShapes Go.WideShapes Go.ChangeAt Go.RowKit
open Go.ChangeMaps (open_string shut_string)
theorem own : ownKnob Try.prog.godebug = none := by kernel_rfl

set_option maxRecDepth 100000 in
theorem lifted (os : Os) (started : os.Started) (H : Type) (enc : TypeId × Value → H) :
    ReturnsInHanded {} Try.checked os 5 .any (Rows.alphaReadsSpec.pre6 enc Try.prog Try.f5 Rows.alphaReadsRow.domain false) (Rows.alphaReadsSpec.post enc Try.prog Try.f5 false true false false) := by
  refine returnsInHanded_of_change (C := Try.checked) own started (by kernel_rfl) Try.func5
    (ChangeSpec.witness6 (enc := enc) (C := Try.checked) false ⟨#[], #[.string ByteArray.empty, .string ByteArray.empty], []⟩ 8 (by kernel_rfl) (by kernel_rfl) (by kernel_rfl) (by kernel_rfl)) ?_
  intro W base args ds gs before hval0 hW _ _
  have hval : ∀ (j : Nat) t v, Try.f5.params[j]? = some t → args[j]? = some v → Value.okWide Try.prog W .any base t v := hval0
  have hW' := hW
  obtain ⟨p, q, hA0, hV, rfl, hfz, hnd⟩ := hW
  have hA : DataW.TrodAll enc Try.prog W 0 (fun _ => true) true Try.f5.params.toList args.toList ds p := hA0
  rw [Try.params5] at hA hval
  obtain ⟨v0, vs0, d0, ds0, p0, q0, hargs, rfl, rfl, h0, r0⟩ := trodAll_cons hA
  obtain ⟨v1, vs1, d1, ds1, p1, q1, rfl, rfl, rfl, h1, r1⟩ := trodAll_cons r0
  obtain ⟨rfl, rfl, rfl⟩ := trodAll_nil r1
  obtain rfl : args = #[v0, v1] := by cases args; simp_all
  obtain ⟨rfl, rfl⟩ := trodVars_none hV
  obtain ⟨a0, rfl, rfl, rfl, w0⟩ := open_string Try.underlying9 (hval 0 9 v0 rfl rfl) h0
  obtain ⟨a1, rfl, rfl, rfl, w1⟩ := open_string Try.underlying9 (hval 1 9 v1 rfl rfl) h1
  clear hA0 hval0
  refine (reads_walk a0 a1 W w0 w1).mono fun e W' ⟨he, bel⟩ => ?_
  subst he
  exact ⟨_, rfl, _, _, _, [], _, [], hW', trodAll_mk1 (shut_bool Try.underlying4 _), (trodAll_cons_mk (shut_string Try.underlying9 w0) (trodAll_cons_mk (shut_string Try.underlying9 w1) trodAll_mk0)), rfl, bel.frame _, fun h => by cases h⟩
end alphaReads

theorem alphaReads_holds : Rows.AlphaReadsSaid :=
  OpenClaim.holds_of_wide 5 Try.f5 rfl rfl rfl rfl rfl rfl rfl ⟨rfl, rfl, rfl, rfl, rfl⟩ rfl rfl rfl rfl rfl (by kernel_rfl) Try.func5 (by kernel_rfl)
    (of_decide_eq_true (by kernel_rfl)) (by unfold Func.isWrapper; first | (rw [if_pos (by decide +kernel)]; kernel_rfl) | (rw [if_neg (by decide +kernel)]; exact ⟨rfl, rfl⟩))
    (fun os started H enc _ => alphaReads.lifted os started H enc)
end Go.Proofs.Ytefngikfidlojaa
