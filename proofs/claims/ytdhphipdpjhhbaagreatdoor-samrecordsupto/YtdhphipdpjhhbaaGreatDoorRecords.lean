/-
  SamRecords, in its second form: for every line that, counted as the statement counts it, holds at most 1048576 letters, the call returns true, and the line reads as it did. (Its first form is false by size alone: of a line of some 2^45 tabs the document's own side keeps a slice of more than 2^48 bytes.)
-/
import Derived.Test.YtdhphipdpjhhbaaGreatDoorRows
import Derived.Test.YtdhphipdpjhhbaaGreatDoorCards
import Derived.Test.YtdhphipdpjhhbaaGreatDoorTie
import Derived.Test.YtdhphipdpjhhbaaGreatDoorAwake
import Derived.Test.YtdhphipdpjhhbaaGreatDoorSameR
import Derived.Test.YtdhphipdpjhhbaaGreatDoorRefRecord
import Derived.Test.YtdhphipdpjhhbaaGreatDoorOver
import Derived.Test.YtdhphipdpjhhbaaGreatDoorCells
import Derived.WalkKit
namespace Go.Proofs.YtdhphipdpjhhbaaGreatDoor
open Go.RowKit

/-- What is told of a line is small. -/
structure SmallR (r : Rec) : Prop where
  name : r.name.length ≤ 65536
  ref : r.ref.length ≤ 65536
  bases : r.bases.length ≤ 65536
  quals : r.quals.length ≤ 65536
  pos : fit64 r.pos
  score : fit64 r.score
  runs : ∀ x ∈ r.runs, fitI x.2
  few : r.runs.length ≤ 131074
theorem right_small {r : Rec} (h : rightR r = true) (hs : fit64 r.score) : SmallR r := by
  have h1 := rightR_read h
  have hb : r.bases.length ≤ 65536 := by
    have := h1.bases
    simp only [basesB, Bool.and_eq_true, decide_eq_true_eq] at this
    exact this.2.1
  have hn := name_short h1.name
  have hq : r.quals.length ≤ 65536 := by rw [h1.long]; exact hb
  cases hm : r.mapped with
  | false =>
    have e := rightR_plain h hm
    have h0 : fit64 0 := ⟨by decide, by decide⟩
    exact ⟨by omega, by rw [e]; exact Nat.zero_le _, hb, hq, by rw [e]; exact h0, hs, (by rw [e]; exact fun x hx => by cases hx), (by rw [e]; exact Nat.zero_le _)⟩
  | true =>
    have h2 := rightR_map h hm
    have hr := name_short h2.ref
    exact ⟨by omega, by omega, hb, hq, h2.pos_fit, hs, fun x hx => ⟨by have := (right_each h2.runs x hx).2; omega, by have := (right_each h2.runs x hx).2; omega⟩, right_few h2.runs⟩
theorem zero_small : SmallR zeroR := ⟨by decide, by decide, by decide, by decide, ⟨by decide, by decide⟩, ⟨by decide, by decide⟩, (fun x hx => by cases hx), by decide⟩
theorem recA_small (l : List UInt8) : SmallR (recA l).1 := by
  cases h : recB l with
  | none => rw [recA_none h]; exact zero_small
  | some r => rw [recA_some h]; exact right_small (recB_spec h).1 (recB_spec h).2.1
theorem small_ok {W : World} {B : Nat} {v : RV} {r : Rec} (hs : SmallR r) (hR : v.R r.runs = r) (ho : W.ownsRow B 37 2 (.slice v.ao v.len v.cap) r.runs.length (rowCells r.runs)) : RecOk W v r.runs ∧ v.len = r.runs.length := by
  obtain ⟨ao', cap', he⟩ := owned_shape ho
  have hl : v.len = r.runs.length := by injection he
  have e1 : v.name.data.toList = r.name := congrArg Rec.name hR
  have e2 : v.ref.data.toList = r.ref := congrArg Rec.ref hR
  have e3 : v.bases.data.toList = r.bases := congrArg Rec.bases hR
  have e4 : v.quals.data.toList = r.quals := congrArg Rec.quals hR
  have e5 : v.pos = r.pos := congrArg Rec.pos hR
  have e6 : v.score = r.score := congrArg Rec.score hR
  have h1 := hs.name
  have h2 := hs.ref
  have h3 := hs.bases
  have h4 := hs.quals
  rw [← e1, size_toList] at h1
  rw [← e2, size_toList] at h2
  rw [← e3, size_toList] at h3
  rw [← e4, size_toList] at h4
  rw [← hl] at ho
  exact ⟨⟨by unfold maxLen; omega, by unfold maxLen; omega, by unfold maxLen; omega, by unfold maxLen; omega, by rw [e5]; exact hs.pos, by rw [e6]; exact hs.score, owned_rns ho hs.runs⟩, hl⟩
theorem owned_low {w : World} {B B' : Nat} {e : TypeId} {size : Nat} {v : Value} {n : Nat} {xs : List Value} (h : w.ownsRow B e size v n xs) (hb : B' ≤ B) : w.ownsRow B' e size v n xs := by
  refine ⟨h.1, ?_⟩
  rcases h.2 with h | ⟨g, cap, cur, hv, hbg, h2⟩
  · exact .inl h
  · exact .inr ⟨g, cap, cur, hv, Nat.le_trans hb hbg, h2⟩
/-- Where the statement stands: the record told, the one wanted. -/
structure Two (w : World) (B g4 g6 : Nat) (c4 c6 : Array Value) (v4 v6 : Value) (l4 l6 : List Rn) (W : World) : Prop where
  low : Below w.heap.size w W
  b4 : W.heap[g4]? = some (.cells c4 24 (0, 0))
  b6 : W.heap[g6]? = some (.cells c6 24 (0, 0))
  o4 : W.ownsRow w.heap.size 37 2 v4 l4.length (rowCells l4)
  o6 : W.ownsRow B 37 2 v6 l6.length (rowCells l6)
  apart : ∀ k, v4.ownBlock = some k → k < B
  order : w.heap.size ≤ B ∧ w.heap.size ≤ g4 ∧ g4 < g6
theorem Two.next {w W W' : World} {B g4 g6 : Nat} {c4 c6 : Array Value} {v4 v6 : Value} {l4 l6 : List Rn} (h : Two w B g4 g6 c4 c6 v4 v6 l4 l6 W) (hb : Below W.heap.size W W') : Two w B g4 g6 c4 c6 v4 v6 l4 l6 W' :=
  ⟨h.low.trans (hb.mono h.low.size), keepB h.b4 hb, keepB h.b6 hb, owned_below h.o4 hb, owned_below h.o6 hb, h.apart, h.order⟩
theorem Two.set {w W : World} {B g4 g6 gv n cap : Nat} {c4 c6 : Array Value} {v6 : Value} {l4 l6 : List Rn} {i : Nat} {x : Rn} {z : Int} (h : Two w B g4 g6 c4 c6 (.slice (some ⟨gv, 0, none⟩) n cap) v6 l4 l6 W) (hn : l4.length = n) (hi : l4[i]? = some x) :
    Two w B g4 g6 c4 c6 (.slice (some ⟨gv, 0, none⟩) n cap) v6 (l4.set i (x.1, z)) l6 (W.setCell ⟨gv, i * 2 + 1, none⟩ (.int .i64 z)) := by
  have hlt := h.apart gv rfl
  have h4 := h.o4
  rw [hn] at h4
  have hs := owned_set h4 (i * 2 + 1) (.int .i64 z)
  rw [rowCells_set l4 i x z hi] at hs
  have hgw := (h.o4.lt gv rfl).1
  have n4 := owned_ne h.o4 h.b4 (by decide)
  have n6 := owned_ne h.o4 h.b6 (by decide)
  refine ⟨h.low.setCell (show w.heap.size ≤ gv by omega) _, keepS h.b4 (fun e => n4 (by rw [e]; rfl)) _, keepS h.b6 (fun e => n6 (by rw [e]; rfl)) _, ?_, owned_setBelow h.o6 hlt _, h.apart, h.order⟩
  rw [List.length_set, hn]; exact hs

set_option maxRecDepth 20000 in
set_option maxHeartbeats 4000000 in
theorem records_walk (s : ByteArray) (w : World) (hstd : Std w) (hs : s.size ≤ 1048576) : Calls Tryz.prog 4 #[.string s] w fun e w' => e = .returned (.bool true) ∧ Below w.heap.size w w' := by
  have HStd : Hid (∀ W, Below w.heap.size w W → Std W) := fun W hW => hstd.below hW
  have HAw : Hid (Calls Tryz.prog 10 #[] w fun e w' => e = .returned (.bool true) ∧ Below w.heap.size w w') := awake_calls w hstd
  have HOf : Hid (∀ W, Below w.heap.size w W → Calls Tryz.prog 15 #[.string s] W fun e w' => RecPost (recA s.data.toList) W e w') := fun W hW => record_calls s W hs (HStd.out W hW)
  have HRf : Hid (∀ W, Calls Tryz.prog 16 #[.string s] W fun e w' => RecPost (recA s.data.toList) W e w') := fun W => refRecord_calls s W hs
  have hsm := recA_small s.data.toList
  generalize hA : recA s.data.toList = A at *
  obtain ⟨R, z⟩ := A
  simp only at hsm
  have HSm : Hid (SmallR R) := hsm
  have hmn : R.runs.length ≤ 131074 := hsm.few
  clear hA hstd hs hsm HStd
  go_enter Tryz.func4, Tryz.ntmps4
  go_wp2_with fail
  refine HAw.out.mono ?_
  rintro e w1 ⟨rfl, hb1⟩
  have HB1 : Hid (Below w.heap.size w w1) := hb1
  clear hb1 HAw
  go_wp2_with fail
  refine (HOf.out _ HB1.out).mono ?_
  rintro e w2 ⟨v, rfl, hvR, hvo, hb2⟩
  simp only at hvR hvo
  obtain ⟨hvk, hvl⟩ := small_ok HSm.out hvR hvo
  rw [hvl] at hvo
  obtain ⟨vnm, vm, vrf, vp, vao, vn, vcap, vb, vq, vs⟩ := v
  simp only at hvl hvR hvo
  subst hvl
  have HV : Hid (w2.ownsRow w1.heap.size 37 2 (.slice vao R.runs.length vcap) R.runs.length (rowCells R.runs) ∧ RecOk w2 ⟨vnm, vm, vrf, vp, vao, R.runs.length, vcap, vb, vq, vs⟩ R.runs ∧ (⟨vnm, vm, vrf, vp, vao, R.runs.length, vcap, vb, vq, vs⟩ : RV).R R.runs = R) := ⟨hvo, hvk, hvR⟩
  have HB2 : Hid (Below w.heap.size w w2) := HB1.out.trans (hb2.mono HB1.out.size)
  have HS12 : Hid (w.heap.size ≤ w1.heap.size ∧ w1.heap.size ≤ w2.heap.size) := ⟨HB1.out.size, hb2.size⟩
  clear hb2 hvo hvk hvR
  generalize hln : R.runs.length = n at *
  have HLN : Hid (R.runs.length = n) := hln
  clear hln
  have HV0 : Hid (w2.ownsRow w1.heap.size 37 2 (.slice vao n vcap) n (rowCells R.runs) ∧ RecOk w2 ⟨vnm, vm, vrf, vp, vao, n, vcap, vb, vq, vs⟩ R.runs ∧ (⟨vnm, vm, vrf, vp, vao, n, vcap, vb, vq, vs⟩ : RV).R R.runs = R) := HV.out
  clear HV
  have HBx : Hid (Below w.heap.size w (w2.alloc (.cells #[.string vnm, .bool vm, .string vrf, .int .i64 vp, .slice vao n vcap, .string vb, .string vq, .int .i64 vs] 24)) ∧ Below w2.heap.size w2 (w2.alloc (.cells #[.string vnm, .bool vm, .string vrf, .int .i64 vp, .slice vao n vcap, .string vb, .string vq, .int .i64 vs] 24)) ∧ (w2.alloc (.cells #[.string vnm, .bool vm, .string vrf, .int .i64 vp, .slice vao n vcap, .string vb, .string vq, .int .i64 vs] 24)).heap[w2.heap.size]? = some (.cells #[.string vnm, .bool vm, .string vrf, .int .i64 vp, .slice vao n vcap, .string vb, .string vq, .int .i64 vs] 24 (0, 0)) ∧ (w2.alloc (.cells #[.string vnm, .bool vm, .string vrf, .int .i64 vp, .slice vao n vcap, .string vb, .string vq, .int .i64 vs] 24)).heap.size = w2.heap.size + 1) := ⟨HB2.out.trans ((below_new _ _).mono HB2.out.size), below_new _ _, heap_alloc_new w2 _, by simp⟩
  go_wp2_with fail
  generalize hwx : w2.alloc (.cells #[.string vnm, .bool vm, .string vrf, .int .i64 vp, .slice vao n vcap, .string vb, .string vq, .int .i64 vs] 24) = wx at *
  clear hwx
  refine (HRf.out _).mono ?_
  rintro e w3 ⟨u, rfl, huR, huo, hb3⟩
  simp only at huR huo
  obtain ⟨huk, hul⟩ := small_ok HSm.out huR huo
  rw [HLN.out] at hul
  rw [hul, HLN.out] at huo
  obtain ⟨unm, um, urf, up, uao, un, ucap, ub, uq, us⟩ := u
  simp only at hul huR huo
  subst un
  have HU : Hid (w3.ownsRow (w2.heap.size + 1) 37 2 (.slice uao n ucap) n (rowCells R.runs) ∧ RecOk w3 ⟨unm, um, urf, up, uao, n, ucap, ub, uq, us⟩ R.runs ∧ (⟨unm, um, urf, up, uao, n, ucap, ub, uq, us⟩ : RV).R R.runs = R) := ⟨by rw [← HBx.out.2.2.2]; exact huo, huk, huR⟩
  have HT3 : Hid (∀ g6, g6 = w3.heap.size → Two w (w2.heap.size + 1) w2.heap.size g6 #[.string vnm, .bool vm, .string vrf, .int .i64 vp, .slice vao n vcap, .string vb, .string vq, .int .i64 vs] #[.string unm, .bool um, .string urf, .int .i64 up, .slice uao n ucap, .string ub, .string uq, .int .i64 us] (.slice vao n vcap) (.slice uao n ucap) R.runs R.runs (w3.alloc (.cells #[.string unm, .bool um, .string urf, .int .i64 up, .slice uao n ucap, .string ub, .string uq, .int .i64 us] 24))) := by
    intro g6 hg6
    subst hg6
    have hbx := HBx.out
    have hb3' : Below wx.heap.size wx w3 := hb3
    have hn : Below w3.heap.size w3 (w3.alloc (.cells #[.string unm, .bool um, .string urf, .int .i64 up, .slice uao n ucap, .string ub, .string uq, .int .i64 us] 24)) := below_new _ _
    have hv := HV0.out.1
    have hu := HU.out.1
    refine ⟨?_, keepB (keepB hbx.2.2.1 hb3') hn, heap_alloc_new w3 _, ?_, ?_, ?_, ?_⟩
    · exact (hbx.1.trans (hb3'.mono hbx.1.size)).trans (hn.mono (Nat.le_trans hbx.1.size hb3'.size))
    · rw [HLN.out]; exact owned_low (owned_below (owned_below (owned_below hv hbx.2.1) hb3') hn) HS12.out.1
    · rw [HLN.out]; exact owned_below hu hn
    · intro k hk; exact Nat.lt_succ_of_lt (hv.lt k hk).2
    · exact ⟨by have := HS12.out; omega, by have := HS12.out; omega, by have := hb3'.size; have := hbx.2.2.2; omega⟩
  have HSame : Hid (∀ W, Below w3.heap.size w3 W → Calls Tryz.prog 17 #[.agg #[.string vnm, .bool vm, .string vrf, .int .i64 vp, .slice vao n vcap, .string vb, .string vq, .int .i64 vs], .agg #[.string unm, .bool um, .string urf, .int .i64 up, .slice uao n ucap, .string ub, .string uq, .int .i64 us]] W fun e w' => e = .returned (.bool true) ∧ Below W.heap.size W w') := by
    intro W hW
    have h1 := sameR_calls ⟨vnm, vm, vrf, vp, vao, n, vcap, vb, vq, vs⟩ ⟨unm, um, urf, up, uao, n, ucap, ub, uq, us⟩ R.runs R.runs W (((HV0.out.2.1.below HBx.out.2.1).below hb3).below hW) (HU.out.2.1.below hW)
    rw [HV0.out.2.2, HU.out.2.2, sameB_self] at h1
    exact h1
  have hb43 : w3.heap[w2.heap.size]? = some (.cells #[.string vnm, .bool vm, .string vrf, .int .i64 vp, .slice vao n vcap, .string vb, .string vq, .int .i64 vs] 24 (0, 0)) := keepB HBx.out.2.2.1 hb3
  obtain ⟨z0, z1, z2, z3, z4, z5, z6, z7⟩ := cells8n hb43
  clear huo huk huR hb3 hb43
  have HBN : Hid (Below w3.heap.size w3 (w3.alloc (.cells #[.string unm, .bool um, .string urf, .int .i64 up, .slice uao n ucap, .string ub, .string uq, .int .i64 us] 24))) := below_new _ _
  go_wp2_with fail
  clear z0 z1 z2 z3 z4 z5 z6 z7
  refine (HSame.out _ HBN.out).mono ?_
  rintro e w5 ⟨rfl, hb5⟩
  have HT5 : Hid (Two w (w2.heap.size + 1) w2.heap.size w3.heap.size #[.string vnm, .bool vm, .string vrf, .int .i64 vp, .slice vao n vcap, .string vb, .string vq, .int .i64 vs] #[.string unm, .bool um, .string urf, .int .i64 up, .slice uao n ucap, .string ub, .string uq, .int .i64 us] (.slice vao n vcap) (.slice uao n ucap) R.runs R.runs w5) := (HT3.out _ rfl).next hb5
  clear hb5 HBN HSame HT3 HBx HB2 HS12
  have HV1 : Hid ((⟨vnm, vm, vrf, vp, vao, n, vcap, vb, vq, vs⟩ : RV).R R.runs = R) := HV0.out.2.2
  have HU1 : Hid ((⟨unm, um, urf, up, uao, n, ucap, ub, uq, us⟩ : RV).R R.runs = R ∧ (⟨unm, um, urf, up, uao, n, ucap, ub, uq, us⟩ : RV).name.size ≤ maxLen ∧ (⟨unm, um, urf, up, uao, n, ucap, ub, uq, us⟩ : RV).ref.size ≤ maxLen ∧ (⟨unm, um, urf, up, uao, n, ucap, ub, uq, us⟩ : RV).bases.size ≤ maxLen ∧ (⟨unm, um, urf, up, uao, n, ucap, ub, uq, us⟩ : RV).quals.size ≤ maxLen ∧ fitI (⟨unm, um, urf, up, uao, n, ucap, ub, uq, us⟩ : RV).pos ∧ fitI (⟨unm, um, urf, up, uao, n, ucap, ub, uq, us⟩ : RV).score) := ⟨HU.out.2.2, HU.out.2.1.name, HU.out.2.1.ref, HU.out.2.1.bases, HU.out.2.1.quals, HU.out.2.1.pos, HU.out.2.1.score⟩
  clear HV0 HU
  generalize hg6 : w3.heap.size = g6 at *
  generalize hg4 : w2.heap.size = g4 at *
  clear hg6 hg4
  go_wp2_with fail
  go_loopw [9] (fun i wr => ∃ (k : Nat) (ps : List Rn), k ≤ n ∧ i = .int .i64 k ∧ ps.length = n ∧ Two w (g4 + 1) g4 g6 #[.string vnm, .bool vm, .string vrf, .int .i64 vp, .slice vao n vcap, .string vb, .string vq, .int .i64 vs] #[.string unm, .bool um, .string urf, .int .i64 up, .slice uao n ucap, .string ub, .string uq, .int .i64 us] (.slice vao n vcap) (.slice uao n ucap) ps R.runs wr) (fun i _ => n - (intOf i).toNat)
  case atStart => exact ⟨0, R.runs, Nat.zero_le _, rfl, HLN.out, HT5.out⟩
  case round =>
    obtain ⟨k, ps, hk, rfl, hpl, hT⟩ := hrel
    have HT : Hid (Two w (g4 + 1) g4 g6 #[.string vnm, .bool vm, .string vrf, .int .i64 vp, .slice vao n vcap, .string vb, .string vq, .int .i64 vs] #[.string unm, .bool um, .string urf, .int .i64 up, .slice uao n ucap, .string ub, .string uq, .int .i64 us] (.slice vao n vcap) (.slice uao n ucap) ps R.runs wr) := hT
    have HPL : Hid (ps.length = n) := hpl
    clear hT hpl HT5
    have z4 := cellB HT.out.b4 (i := 4) rfl
    have zf_ : ∀ k, wr.frozen? ⟨g4, k, none⟩ = false := freeB HT.out.b4
    by_cases hlt : k < n
    · have hd : decide ((k : Int) < (n : Int)) = true := by simp; omega
      have ho4 := HT.out.o4
      rw [HPL.out] at ho4
      obtain ⟨g, rfl⟩ : ∃ g, vao = some ⟨g, 0, none⟩ := by
        rcases ho4.2 with ⟨hv, hz⟩ | ⟨g, cap', cur, hv, _⟩
        · omega
        · cases hv; exact ⟨g, rfl⟩
      obtain ⟨q, hq⟩ : ∃ q, ps[k]? = some q := ⟨_, List.getElem?_eq_getElem (by rw [HPL.out]; exact hlt)⟩
      obtain ⟨r1, r2⟩ := rowCells_get ps k q hq
      obtain ⟨c2, f2⟩ := owned_cells ho4 _ _ r2
      have HQ : Hid (ps[k]? = some q) := hq
      clear hq r1 r2 ho4
      go_wp2
      go_roundw
      case rel => exact ⟨k + 1, ps.set k (q.1, -1), by omega, by go_num, by rw [List.length_set]; exact HPL.out, HT.out.set HPL.out HQ.out⟩
      case measure => simp [intOf]; omega
    · have hd : decide ((k : Int) < (n : Int)) = false := by simp; omega
      obtain ⟨i0, hi, hz0, hz1, hz2⟩ := info_parts info29
      have HO4 := HT.out.o4
      rw [HPL.out] at HO4
      have hs1 : w.heap.size ≤ wr.heap.size := HT.out.low.size
      go_wp2_with (at_builtin; go_loud (refine wpList_append_own _ rfl _ _ 22 rfl w.heap.size 37 i0 (.agg #[.int .u8 0, .int .i64 0]) 2 16 Tryz.underlying22 hi hz0 hz1 hz2 rfl (by decide) _ _ _ rfl (HO4.alloc _) ⟨_, 0, none⟩ 1 1 (rnCells (88, 0)) rfl rfl (cell_two_new _ _ _ _) (rn_oneCell _) ?c3 ?c4 ?c5 ?_))
      case c3 => unfold maxLen; omega
      case c4 => omega
      case c5 => simp; omega
      intro v' w6 ho6 hg5 _
      obtain ⟨ao', cap', rfl⟩ := owned_shape ho6
      have hne4 := owned_ne HT.out.o4 HT.out.b4 (by decide)
      have hne6 := owned_ne HT.out.o4 HT.out.b6 (by decide)
      have hba : Below wr.heap.size wr (wr.alloc (.cells #[.int .u8 88, .int .i64 0] 37)) := below_new _ _
      have hw4 : w6.heap[g4]? = some (.cells #[.string vnm, .bool vm, .string vrf, .int .i64 vp, .slice vao n vcap, .string vb, .string vq, .int .i64 vs] 24 (0, 0)) := by rw [hg5.block g4 (lt_block (keepB HT.out.b4 hba)) (fun e => hne4 e.symm)]; exact keepB HT.out.b4 hba
      have hw6 : w6.heap[g6]? = some (.cells #[.string unm, .bool um, .string urf, .int .i64 up, .slice uao n ucap, .string ub, .string uq, .int .i64 us] 24 (0, 0)) := by rw [hg5.block g6 (lt_block (keepB HT.out.b6 hba)) (fun e => hne6 e.symm)]; exact keepB HT.out.b6 hba
      have HW6 : Hid (w6.heap[g6]? = some (.cells #[.string unm, .bool um, .string urf, .int .i64 up, .slice uao n ucap, .string ub, .string uq, .int .i64 us] 24 (0, 0))) := hw6
      have HO6 : Hid (w6.ownsRow (g4 + 1) 37 2 (.slice uao n ucap) n (rowCells R.runs)) := by
        have h := HT.out.o6
        rw [HLN.out] at h
        exact owned_grownBelow (h.alloc _) HT.out.apart hg5
      have HB6 : Hid (Below w.heap.size w w6) := (HT.out.low.alloc hs1 _).grown hg5 (by simp; omega) (fun k hk => (HT.out.o4.lt k hk).1)
      have HOrd : Hid (w.heap.size ≤ g4 ∧ g4 < g6) := HT.out.order.2
      have y4 := cellB hw4 (i := 4) rfl
      have yf_ : ∀ k, w6.frozen? ⟨g4, k, none⟩ = false := freeB hw4
      clear ho6 hg5 HT HO4 hne4 hne6 hba hw4 hw6 z4 zf_
      go_wp2_with fail
      generalize hw7 : w6.setCell ⟨g4, 4, none⟩ (.slice ao' (n + 1) cap') = w7
      have HB7 : Hid (Below w.heap.size w w7) := by subst hw7; exact HB6.out.setCell (p := (⟨g4, 4, none⟩ : Addr)) HOrd.out.1 _
      have HW7 : Hid (w7.heap[g6]? = some (.cells #[.string unm, .bool um, .string urf, .int .i64 up, .slice uao n ucap, .string ub, .string uq, .int .i64 us] 24 (0, 0))) := by subst hw7; exact keepS HW6.out (by have := HOrd.out.2; omega) _
      have HO7 : Hid (w7.ownsRow (g4 + 1) 37 2 (.slice uao n ucap) n (rowCells R.runs)) := by subst hw7; exact owned_setBelow HO6.out (Nat.lt_succ_self _) _
      clear hw7 y4 yf_ HB6 HW6 HO6 HOrd
      refine (HOf.out _ HB7.out).mono ?_
      rintro e w8 ⟨v, rfl, hvR, hvo, hb8⟩
      simp only at hvR hvo
      obtain ⟨hvk, hvl⟩ := small_ok HSm.out hvR hvo
      rw [HLN.out] at hvl
      rw [hvl, HLN.out] at hvo
      obtain ⟨qnm, qm, qrf, qp, qao, qn, qcap, qb, qq, qs⟩ := v
      simp only at hvl hvR hvo
      subst qn
      have HB8 : Hid (Below w.heap.size w w8) := HB7.out.trans (hb8.mono HB7.out.size)
      obtain ⟨z0, z1, z2, z3, z4, z5, z6, z7⟩ := cells8n (keepB HW7.out hb8)
      have HSame : Hid (∀ W, Below w8.heap.size w8 W → Calls Tryz.prog 17 #[.agg #[.string qnm, .bool qm, .string qrf, .int .i64 qp, .slice qao n qcap, .string qb, .string qq, .int .i64 qs], .agg #[.string unm, .bool um, .string urf, .int .i64 up, .slice uao n ucap, .string ub, .string uq, .int .i64 us]] W fun e w' => e = .returned (.bool true) ∧ Below W.heap.size W w') := by
        intro W hW
        obtain ⟨u1, u2, u3, u4, u5, u6, u7⟩ := HU1.out
        have h1 := sameR_calls ⟨qnm, qm, qrf, qp, qao, n, qcap, qb, qq, qs⟩ ⟨unm, um, urf, up, uao, n, ucap, ub, uq, us⟩ R.runs R.runs W (hvk.below hW) (RecOk.below ⟨u2, u3, u4, u5, u6, u7, owned_rns (owned_below HO7.out hb8) HSm.out.runs⟩ hW)
        rw [hvR, u1, sameB_self] at h1
        exact h1
      have HBN : Hid (Below w8.heap.size w8 (w8.alloc (.cells #[.string qnm, .bool qm, .string qrf, .int .i64 qp, .slice qao n qcap, .string qb, .string qq, .int .i64 qs] 24))) := below_new _ _
      clear hvk hvo hvR hb8 HW7 HO7
      go_wp2_with fail
      clear z0 z1 z2 z3 z4 z5 z6 z7
      refine (HSame.out _ HBN.out).mono ?_
      rintro e w9 ⟨rfl, hb9⟩
      have HB9 : Hid (Below w.heap.size w w9) := (HB8.out.trans (HBN.out.mono HB8.out.size)).trans (hb9.mono (Nat.le_trans HB8.out.size HBN.out.size))
      clear hb9 HBN HSame
      go_wp2
      go_ret
      exact ⟨rfl, HB9.out⟩

namespace samRecords
open Go.ChangeShapes Go.WideShapes Go.ChangeAt Go.RowKit
open Go.ChangeMaps (open_string shut_string)

theorem reads (os : Os) {H : Type} (enc : TypeId × Value → H) : ∃ places, DataW.whole enc Tryz.prog ((World.laidAll Tryz.prog os theLaid).forCall (fun _ _ => 0) ⟨#[], #[.string ByteArray.empty], []⟩).memory Tryz.f4.params.toList Rows.samRecordsSpec.vars false #[.string ByteArray.empty].toList 8 = some ([.lit (.string [])], [], places) :=
  ⟨[], by kernel_rfl⟩

set_option maxRecDepth 100000 in
theorem lifted (os : Os) (started : os.Started) (H : Type) (enc : TypeId × Value → H) (F : Stop.Interp) :
    ReturnsInHanded {} Tryz.checked os 4 .any ((Rows.OpenSpec.upto Rows.samRecordsSpec).preRow enc Tryz.prog Tryz.f4 Rows.samRecordsUptoRow.domain false Rows.samRecordsUptoRow.laid) (((Rows.OpenSpec.upto Rows.samRecordsSpec).at F).post enc Tryz.prog Tryz.f4 false true false false) := by
  obtain ⟨places, hx⟩ := reads os enc
  refine returnsInHanded_of_row (C := Tryz.checked) (s := (Rows.OpenSpec.upto Rows.samRecordsSpec)) own started (by kernel_rfl) Tryz.func4
    (witness_row_at (enc := enc) (C := Tryz.checked) false (World.laidAll Tryz.prog os theLaid) #[.string ByteArray.empty] (World.laidAll_os _ _ _) (by kernel_rfl) (by kernel_rfl) (by kernel_rfl)
      (OpenSpec.preRow_of_cond 8 hx (by kernel_rfl) (fun k hk => by cases hk; kernel_rfl) (by kernel_rfl) (laid_met os _))) ?_
  intro W base args ds gs before hval0 hW _ hcond _ hL hSh _
  have hval : ∀ (j : Nat) t v, Tryz.f4.params[j]? = some t → args[j]? = some v → Value.okWide Tryz.prog W .any base t v := hval0
  have hW' := hW
  obtain ⟨p, q, hA0, hV, rfl, hfz, hnd⟩ := hW
  have hA : DataW.TrodAll enc Tryz.prog W 0 (fun _ => true) true Tryz.f4.params.toList args.toList ds p := hA0
  rw [Tryz.params4] at hA hval
  obtain ⟨v0, vs0, d0, ds0, p0, q0, hargs, rfl, rfl, h0, r0⟩ := trodAll_cons hA
  obtain ⟨rfl, rfl, rfl⟩ := trodAll_nil r0
  obtain rfl : args = #[v0] := by cases args; simp_all
  obtain ⟨rfl, rfl⟩ := trodVars_none hV
  obtain ⟨a0, rfl, rfl, rfl, w0⟩ := open_string Tryz.underlying9 (hval 0 9 v0 rfl rfl) h0
  have hk := of_decide_eq_true (hcond _ rfl)
  simp only [List.append_nil, Rows.uptoBulkAll, Rows.uptoBulk] at hk
  have hsz : a0.size ≤ 1048576 := by rw [← size_toList]; omega
  clear hA0 hval0
  refine (records_walk a0 W (std_of_laid hL hSh) hsz).mono fun e W' ⟨he, bel⟩ => ?_
  subst he
  exact ⟨_, rfl, _, _, _, [], _, [], hW', trodAll_mk1 (shut_bool Tryz.underlying4 _), (trodAll_cons_mk (shut_string Tryz.underlying9 w0) trodAll_mk0), rfl, bel.frame _, fun h => by cases h⟩
end samRecords

theorem samRecordsUpto_holds : Rows.SamRecordsUptoSaid :=
  OpenClaim.holds_of_cond 4 Tryz.f4 rfl rfl rfl rfl rfl rfl rfl ⟨rfl, rfl, rfl, rfl, rfl⟩ rfl rfl rfl rfl rfl (by kernel_rfl) Tryz.func4 (by kernel_rfl)
    (of_decide_eq_true (by kernel_rfl)) (by unfold Func.isWrapper; first | (rw [if_pos (by decide +kernel)]; kernel_rfl) | (rw [if_neg (by decide +kernel)]; exact ⟨rfl, rfl⟩))
    (fun os started H enc _ F => by rw [OpenClaim.pre_eq_preRow]; exact samRecords.lifted os started H enc F)

theorem samRecordsUptoCard_holds : Rows.SamRecordsUptoCardSaid :=
  Claim7.holds_tied_plain_at .later [] _ _ _ _
    samRecordsUpto_holds (fun _ h => by cases h) (by kernel_rfl) (fun _ h => by cases h) samRecordsUpto_row_tie rfl ⟨rfl, rfl⟩ (by kernel_rfl) rfl
    (fun f fn hf hfn => by
      obtain rfl : f = 4 := Option.some.inj ((show Tryz.prog.funcNamed Rows.samRecordsUptoRow.func = some 4 by kernel_rfl).symm.trans hf) |>.symm
      obtain rfl : fn = Tryz.f4 := (Option.some.inj (Tryz.func4.symm.trans hfn)).symm
      exact ⟨by kernel_rfl, fun j t ht => by
        rw [Tryz.params4] at ht
        have hm : t ∈ [9] := by simpa using Array.mem_of_getElem? ht
        have hall : ([9].all fun u => !Tryz.prog.wantsStandIn u) = true := by kernel_rfl
        exact (show Tryz.prog.wantsStandIn t = false by simpa using List.all_eq_true.1 hall t hm)⟩)
    (by kernel_rfl)
end Go.Proofs.YtdhphipdpjhhbaaGreatDoor
