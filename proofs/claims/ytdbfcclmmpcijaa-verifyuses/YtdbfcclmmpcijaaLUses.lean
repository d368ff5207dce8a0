/-
  What Used tells of any place of any code: the document's answer, twice; what is told is the caller's own.
-/
import Derived.Test.YtdbfcclmmpcijaaRows
import Derived.Test.YtdbfcclmmpcijaaVuC
import Derived.Test.YtdbfcclmmpcijaaOpn
namespace Go.Proofs.Ytdbfcclmmpcijaa
open Go.RowKit

def marks (U : List Int) (k : Nat) : List Int := List.replicate k (-7) ++ U.drop k
theorem marks_zero (U : List Int) : marks U 0 = U := by simp [marks]
theorem marks_get {U : List Int} {k : Nat} : (marks U k)[k]? = U[k]? := by
  unfold marks
  rw [List.getElem?_append_right (by simp)]
  simp
theorem marks_set {U : List Int} {k : Nat} (h : k < U.length) : (marks U k).set k (-7) = marks U (k + 1) := by
  unfold marks
  rw [List.set_append_right _ _ (by simp), List.length_replicate, Nat.sub_self, List.drop_eq_getElem_cons h, List.set_cons_zero, List.replicate_succ', List.append_assoc]
  rfl
/-- The box, and both lists, apart. -/
structure Uw (w wr : World) (cs : Array Value) (v7 v9 : Value) (n : Nat) (U L : List Int) : Prop where
  low : Below w.heap.size w wr
  box : wr.heap[w.heap.size]? = some (.cells cs 26 (0, 0))
  want : wr.ownsRow w.heap.size 3 1 v7 n (intVals U)
  mine : wr.ownsRow w.heap.size 3 1 v9 n (intVals L)
  apart : ∀ g, v9.ownBlock = some g → v7.ownBlock ≠ some g
theorem Uw.next {w wr w2 : World} {cs : Array Value} {v7 v9 : Value} {n : Nat} {U L : List Int} (h : Uw w wr cs v7 v9 n U L) (hb : Below wr.heap.size wr w2) : Uw w w2 cs v7 v9 n U L :=
  ⟨below_two h.low hb, by rw [hb.block _ (lt_block h.box)]; exact h.box, owned_below h.want hb, owned_below h.mine hb, h.apart⟩
theorem Uw.put {w wr : World} {cs : Array Value} {v7 : Value} {g n cap : Nat} {U L : List Int} (h : Uw w wr cs v7 (.slice (some ⟨g, 0, none⟩) n cap) n U L) (k : Nat) (z : Int) : Uw w (wr.setCell ⟨g, k, none⟩ (.int .i64 z)) cs v7 (.slice (some ⟨g, 0, none⟩) n cap) n U (L.set k z) := by
  have hg := own_blk h.mine g rfl
  have hne : w.heap.size ≠ g := fun e => by
    rcases h.mine.2 with ⟨hv, _⟩ | ⟨g', cap', cur, hv, _, hc, _⟩
    · cases hv
    · cases hv; have := h.box; rw [e, hc] at this; cases this
  refine ⟨h.low.setCell (p := ⟨g, k, none⟩) hg _, by rw [Below.heap_setCell _ _ _ _ hne]; exact h.box, ?_, ?_, h.apart⟩
  · refine owned_of_block h.want fun g' cur hv _ => Below.heap_setCell _ _ _ g' (fun e => ?_)
    exact h.apart g rfl (by rw [hv, show g' = g from e])
  · have := owned_set h.mine k (.int .i64 z)
    rwa [show (intVals L).set k (.int .i64 z) = intVals (L.set k z) by simp [intVals, List.map_set]] at this
theorem Uw.grow {w wr w2 : World} {cs : Array Value} {v7 v9 : Value} {n : Nat} {U L : List Int} (h : Uw w wr cs v7 v9 n U L) (hg : wr.grownBy w2 v9.ownBlock) : Bk w w2 w.heap.size cs ∧ w2.ownsRow w.heap.size 3 1 v7 n (intVals U) := by
  refine ⟨⟨h.low.grown hg h.low.size (own_blk h.mine), ?_⟩, ?_⟩
  · rw [hg.block _ (lt_block h.box) (fun e => by
      rcases h.mine.2 with ⟨hv, _⟩ | ⟨g', cap', cur', hv, _, hg', _⟩
      · rw [hv] at e; cases e
      · rw [hv] at e; simp [Value.ownBlock] at e; subst e; have := h.box; rw [hg'] at this; cases this)]
    exact h.box
  · exact owned_of_block h.want fun g' cur hv hc => hg.block g' (lt_block hc) (fun e => h.apart g' e.symm hv)
theorem drewN_add (w : World) (a b : Nat) : (w.drewN a).drewN b = w.drewN (a + b) := by
  induction b with
  | zero => rfl
  | succ b ih => show ((w.drewN a).drewN b).drew = (w.drewN (a + b)).drew; rw [ih]
theorem usd_few (c : Cd) (a : Int) : (usdB c a).1.length ≤ 16 := by
  unfold usdB
  split
  · simp
  split
  · simp
  · exact usL_len _ _ _
theorem own_get {w : World} {base g n cap : Nat} {L : List Int} (h : w.ownsRow base 3 1 (.slice (some ⟨g, 0, none⟩) n cap) n (intVals L)) {k : Nat} {z : Int} (hz : L[k]? = some z) : w.cell? ⟨g, k, none⟩ = some (.int .i64 z) ∧ w.frozen? ⟨g, k, none⟩ = false :=
  owned_cells h k _ (by simp [intVals, hz])

set_option maxRecDepth 20000 in
set_option maxHeartbeats 4000000 in
theorem uses_walk (c : Cd) (s : Ls) (a : Int) (w : World) (hc : CdIn w c s) :
    Calls Try.prog 4 #[.agg (cdCells c s), .int .i64 a] w fun e w' => e = .returned (.bool true) ∧ Below w.heap.size w w' := by
  have HC : Hid (CdAt w c s) := hc.at'
  have HCap : Hid (s.i.n ≤ s.i.c) := hc.i.1
  clear hc
  have HX : Hid (Bx w (cdCells c s) (w.alloc (.cells #[.int .i64 c.letters, .int .i64 c.planes, .int .i64 c.regs, .int .i64 c.lo, .int .i64 c.hi, .int .i64 c.most, .slice s.t.a s.t.n s.t.c, .slice s.k.a s.k.n s.k.c, .slice s.i.a s.i.n s.i.c, .slice s.r.a s.r.n s.r.c] 26))) := Bx.start w _
  rw [show cdCells c s = #[.int .i64 c.letters, .int .i64 c.planes, .int .i64 c.regs, .int .i64 c.lo, .int .i64 c.hi, .int .i64 c.most, .slice s.t.a s.t.n s.t.c, .slice s.k.a s.k.n s.k.c, .slice s.i.a s.i.n s.i.c, .slice s.r.a s.r.n s.r.c] from rfl]
  go_enter Try.func4, Try.ntmps4
  go_wp2_with fail
  refine (weighs_calls c s _ (HC.out.below HX.out.low)).mono ?_
  rintro e w1 ⟨⟨z1, rfl, _⟩, hb⟩
  have HX1 : Hid (Bx w (cdCells c s) w1) := HX.out.next hb
  clear hb HX
  by_cases g1 : 2147483647 < z1
  · go_wp2
    go_ret
    exact ⟨rfl, HX1.out.low⟩
  go_wp2_with fail
  refine (awake_calls w1).mono ?_
  rintro e w2 ⟨rfl, hb⟩
  have HX2 : Hid (Bx w (cdCells c s) w2) := HX1.out.next hb
  clear hb HX1 g1
  have c0 := HX2.out.cell 0 (.int .i64 c.letters) rfl
  have c1 := HX2.out.cell 1 (.int .i64 c.planes) rfl
  have c2 := HX2.out.cell 2 (.int .i64 c.regs) rfl
  have c3 := HX2.out.cell 3 (.int .i64 c.lo) rfl
  have c4 := HX2.out.cell 4 (.int .i64 c.hi) rfl
  have c5 := HX2.out.cell 5 (.int .i64 c.most) rfl
  have c6 := HX2.out.cell 6 (.slice s.t.a s.t.n s.t.c) rfl
  have c7 := HX2.out.cell 7 (.slice s.k.a s.k.n s.k.c) rfl
  have c8 := HX2.out.cell 8 (.slice s.i.a s.i.n s.i.c) rfl
  have c9 := HX2.out.cell 9 (.slice s.r.a s.r.n s.r.c) rfl
  go_wp2_with fail
  refine (refUsed_calls c s a _ (HC.out.below HX2.out.low)).mono ?_
  rintro e w3 ⟨v7, rfl, ho7, hb⟩
  have HX3 : Hid (Bx w (cdCells c s) w3) := HX2.out.next hb
  have HW3 : Hid (w.heap.size ≤ w2.heap.size) := HX2.out.low.size
  clear HX2
  clear c0 c1 c2 c3 c4 c5 c6 c7 c8 c9
  have c0 := HX3.out.cell 0 (.int .i64 c.letters) rfl
  have c1 := HX3.out.cell 1 (.int .i64 c.planes) rfl
  have c2 := HX3.out.cell 2 (.int .i64 c.regs) rfl
  have c3 := HX3.out.cell 3 (.int .i64 c.lo) rfl
  have c4 := HX3.out.cell 4 (.int .i64 c.hi) rfl
  have c5 := HX3.out.cell 5 (.int .i64 c.most) rfl
  have c6 := HX3.out.cell 6 (.slice s.t.a s.t.n s.t.c) rfl
  have c7 := HX3.out.cell 7 (.slice s.k.a s.k.n s.k.c) rfl
  have c8 := HX3.out.cell 8 (.slice s.i.a s.i.n s.i.c) rfl
  have c9 := HX3.out.cell 9 (.slice s.r.a s.r.n s.r.c) rfl
  go_wp2_with fail
  refine (used_calls c s a _ (HC.out.below HX3.out.low) HCap.out).mono ?_
  rintro e w4 ⟨v9, rfl, ho9, hb4⟩
  have hu16 := usd_few c a
  obtain ⟨U, hU⟩ : ∃ U, (usdB c a).1 = U := ⟨_, rfl⟩
  obtain ⟨er, her⟩ : ∃ E, (usdB c a).2 = E := ⟨_, rfl⟩
  have HUE : Hid ((usdB c a).1 = U ∧ (usdB c a).2 = er) := ⟨hU, her⟩
  rw [hU] at ho7 ho9 hu16
  rw [her]
  obtain ⟨n, hn⟩ : ∃ n, U.length = n := ⟨_, rfl⟩
  have HN : Hid (U.length = n) := hn
  rw [hn] at ho7 ho9 hu16
  obtain ⟨a7, k7, rfl⟩ := owned_shape ho7
  obtain ⟨a9, k9, rfl⟩ := owned_shape ho9
  have HUw : Hid (Uw w w4 (cdCells c s) (.slice a7 n k7) (.slice a9 n k9) n U (marks U 0)) := by
    have hx4 := HX3.out.next hb4
    have up : ∀ {W : World} {b b2 : Nat} {v : Value} {n : Nat} {xs : List Value}, b2 ≤ b → W.ownsRow b 3 1 v n xs → W.ownsRow b2 3 1 v n xs := fun hle ho => ⟨ho.1, by
      rcases ho.2 with h1 | ⟨g, cap, cur, h1, h2, h3⟩
      · exact .inl h1
      · exact .inr ⟨g, cap, cur, h1, Nat.le_trans hle h2, h3⟩⟩
    refine ⟨hx4.low, hx4.box, up HW3.out (owned_below ho7 hb4), ?_, ?_⟩
    · rw [marks_zero]; exact up HX3.out.low.size ho9
    · intro g h9 h7
      have h1 := own_blk ho9 g h9
      rcases ho7.2 with ⟨hv, _⟩ | ⟨g', cap', cur', hv, _, hg', _⟩
      · rw [hv] at h7; cases h7
      · rw [hv] at h7; simp [Value.ownBlock] at h7; subst h7; have := lt_block hg'; omega
  clear hU her hn ho7 ho9 hb hb4 HX3
  clear c0 c1 c2 c3 c4 c5 c6 c7 c8 c9
  have hne1 : ((n : Int) != (n : Int)) = false := by simp
  have hne2 : (er != er) = false := by simp
  go_wp2
  go_loopw [11] (fun i wr => ∃ k : Nat, k ≤ n ∧ i = .int .i64 k ∧ Uw w wr (cdCells c s) (.slice a7 n k7) (.slice a9 n k9) n U (marks U k)) (fun i _ => n - (intOf i).toNat)
  case atStart => exact ⟨0, Nat.zero_le _, rfl, HUw.out⟩
  case round =>
    obtain ⟨k, hk, rfl, hu⟩ := hrel
    have HU : Hid (Uw w wr (cdCells c s) (.slice a7 n k7) (.slice a9 n k9) n U (marks U k)) := hu
    clear hu HUw
    by_cases hlt : k < n
    · obtain ⟨g7, q7, e7, _, _, _, hl7⟩ := owned_some HU.out.want (by omega)
      obtain ⟨g9, q9, e9, _, _, _, hl9⟩ := owned_some HU.out.mine (by omega)
      injection e7 with e71 _ e73
      injection e9 with e91 _ e93
      subst e71 e73 e91 e93
      obtain ⟨z, hz⟩ := get_lt (l := U) (k := k) (by rw [HN.out]; exact hlt)
      have x7 := (own_get HU.out.want hz).1
      obtain ⟨x9, f9⟩ := own_get HU.out.mine (marks_get.trans hz)
      have HU2 : Hid (∀ W : World, Below wr.heap.size wr W → Uw w (W.setCell ⟨g9, k, none⟩ (.int .i64 (-7))) (cdCells c s) (.slice (some ⟨g7, 0, none⟩) n k7) (.slice (some ⟨g9, 0, none⟩) n k9) n U (marks U (k + 1))) := fun W hW => by
        rw [← marks_set (by rw [HN.out]; exact hlt)]; exact (HU.out.next hW).put k (-7)
      have HU3 : Hid (∀ W : World, Below wr.heap.size wr W → W.cell? ⟨g9, k, none⟩ = some (.int .i64 z) ∧ W.frozen? ⟨g9, k, none⟩ = false) := fun W hW => own_get (HU.out.next hW).mine (marks_get.trans hz)
      clear hz HU
      have hzz : (z != z) = false := by simp
      go_wp2_with fail
      go_quiet (fail)
      have hbd : Below wr.heap.size wr (wr.drewN nq) := below_drewN (Below.refl _ _) nq
      have HUn := HU2.out _ hbd
      have HUd : Hid (Uw w ((wr.drewN nq).setCell ⟨g9, k, none⟩ (.int .i64 (-7))) (cdCells c s) (.slice (some ⟨g7, 0, none⟩) n k7) (.slice (some ⟨g9, 0, none⟩) n k9) n U (marks U (k + 1))) := HUn
      obtain ⟨y9, fy9⟩ := HU3.out _ hbd
      clear x7 x9 f9 HUn HU2 HU3 hbd
      generalize wr.drewN nq = wz at *
      go_wp2
      go_roundw
      case rel => exact ⟨k + 1, by omega, by go_num, HUd.out⟩
      case measure => simp [intOf]; omega
    · obtain rfl : k = n := by omega
      obtain ⟨i1, hi, hz0, hz1, hz2⟩ := info_parts info3
      have hws := HU.out.low.size
      clear hk hlt
      go_wp2_with (at_builtin; go_loud (refine wpList_append_own _ rfl _ _ 22 rfl w.heap.size 3 i1 (.int .i64 0) 1 8 Try.underlying22 hi hz0 hz1 hz2 rfl (by decide) (.slice a9 k k9) _ _ rfl (HU.out.mine.alloc _) ⟨_, 0, none⟩ 1 1 [.int .i64 (-8)] rfl rfl ?c1 (one_int (-8)) ?c3 ?c4 ?c5 ?_))
      case c1 =>
        intro i u hu
        match i, hu with
        | 0, hu => simp at hu; subst hu; simp [Addr.add]
      case c3 => unfold maxLen; omega
      case c4 => omega
      case c5 => first | omega | (simp; omega)
      intro v' w5 hown' hgrow _
      have HB5 : Hid (Bk w w5 w.heap.size (cdCells c s) ∧ w5.ownsRow w.heap.size 3 1 (.slice a7 k k7) k (intVals U)) := (HU.out.next (below_new _)).grow hgrow
      clear hown' hgrow HU hi hz0 hz1 hz2 i1
      have HK5 : Hid (Bk w w5 w.heap.size (cdCells c s)) := HB5.out.1
      have c0 := HK5.out.cell 0 (.int .i64 c.letters) rfl
      have c1 := HK5.out.cell 1 (.int .i64 c.planes) rfl
      have c2 := HK5.out.cell 2 (.int .i64 c.regs) rfl
      have c3 := HK5.out.cell 3 (.int .i64 c.lo) rfl
      have c4 := HK5.out.cell 4 (.int .i64 c.hi) rfl
      have c5 := HK5.out.cell 5 (.int .i64 c.most) rfl
      have c6 := HK5.out.cell 6 (.slice s.t.a s.t.n s.t.c) rfl
      have c7 := HK5.out.cell 7 (.slice s.k.a s.k.n s.k.c) rfl
      have c8 := HK5.out.cell 8 (.slice s.i.a s.i.n s.i.c) rfl
      have c9 := HK5.out.cell 9 (.slice s.r.a s.r.n s.r.c) rfl
      go_wp2_with fail
      refine (used_calls c s a _ (HC.out.below HK5.out.low) HCap.out).mono ?_
      rintro e w6 ⟨v12, rfl, ho12, hb6⟩
      rw [HUE.out.1] at ho12
      rw [HUE.out.2]
      rw [HN.out] at ho12
      obtain ⟨a12, k12, rfl⟩ := owned_shape ho12
      have HR : Hid (w6.ownsRow w5.heap.size 3 1 (.slice a12 k k12) k (intVals U) ∧ w6.ownsRow w.heap.size 3 1 (.slice a7 k k7) k (intVals U) ∧ Below w.heap.size w w6) := ⟨ho12, owned_below HB5.out.2 hb6, below_two HK5.out.low hb6⟩
      clear ho12 hb6 HK5 HB5
      clear c0 c1 c2 c3 c4 c5 c6 c7 c8 c9
      go_wp2
      go_loopw [14] (fun i wr => ∃ j d : Nat, j ≤ k ∧ i = .int .i64 j ∧ wr = w6.drewN d) (fun i _ => k - (intOf i).toNat)
      case atStart => exact ⟨0, 0, Nat.zero_le _, rfl, rfl⟩
      case round =>
        obtain ⟨j, d, hj, rfl, hwr⟩ := hrel
        have hbel : Below w6.heap.size w6 wr := by rw [hwr]; exact below_drewN (Below.refl _ _) d
        have HW : Hid (wr = w6.drewN d) := hwr
        have HLw : Hid (Below w.heap.size w wr) := below_two HR.out.2.2 hbel
        clear hwr
        by_cases hlt : j < k
        · have o12 := owned_below HR.out.1 hbel
          have o7 := owned_below HR.out.2.1 hbel
          obtain ⟨g12, q12, e12, _, _, _, _⟩ := owned_some o12 (by omega)
          obtain ⟨g7, q7, e7, _, _, _, _⟩ := owned_some o7 (by omega)
          injection e7 with e71 _ e73
          injection e12 with e121 _ e123
          subst e71 e73 e121 e123
          obtain ⟨z, hz⟩ := get_lt (l := U) (k := j) (by rw [HN.out]; exact hlt)
          have x7 := (own_get o7 hz).1
          have x12 := (own_get o12 hz).1
          have hzz : (z != z) = false := by simp
          clear o12 o7 hz hbel
          go_wp2_with fail
          go_quiet (fail)
          have HW2 : Hid (∃ i, wr.drewN nq = w6.drewN i) := ⟨d + nq, by rw [HW.out]; exact drewN_add w6 d nq⟩
          generalize wr.drewN nq = wz at *
          go_wp2
          go_roundw
          case rel =>
            obtain ⟨i, hi⟩ := HW2.out
            exact ⟨j + 1, i, by omega, by go_num, hi⟩
          case measure => simp [intOf]; omega
        · obtain rfl : j = k := by omega
          clear hbel
          go_wp2
          go_ret
          exact ⟨rfl, HLw.out⟩


namespace verifyUses
open Go.ChangeShapes Go.WideShapes Go.ChangeAt Go.RowKit
open Go.ChangeMaps (open_string shut_string)
theorem own : ownKnob Try.prog.godebug = none := by kernel_rfl
theorem laidOut : laidOutB Try.prog = true := by kernel_rfl
set_option maxRecDepth 100000 in
theorem lifted (os : Os) (started : os.Started) (H : Type) (enc : TypeId × Value → H) :
    ReturnsInHanded {} Try.checked os 4 .any (Rows.verifyUsesSpec.pre6 enc Try.prog Try.f4 Rows.verifyUsesRow.domain false) (Rows.verifyUsesSpec.post enc Try.prog Try.f4 false true false false) := by
  refine returnsInHanded_of_change_sized (C := Try.checked) own started (by kernel_rfl) Try.func4
    (ChangeSpec.witness6 (enc := enc) (C := Try.checked) false ⟨#[], #[.agg #[.int .i64 0, .int .i64 0, .int .i64 0, .int .i64 0, .int .i64 0, .int .i64 0, .slice none 0 0, .slice none 0 0, .slice none 0 0, .slice none 0 0], .int .i64 0], []⟩ 8 (by kernel_rfl) (by kernel_rfl) (by kernel_rfl) (by kernel_rfl)) ?_
  intro W base args ds gs before hval0 hW _ hsz0 _
  have hval : ∀ (j : Nat) t v, Try.f4.params[j]? = some t → args[j]? = some v → Value.okWide Try.prog W .any base t v := hval0
  have hsz : (DataW.weightsEach Try.prog (Try.f4.params.toList ++ Rows.verifyUsesSpec.plain.varTypes Try.prog) (ds ++ gs)).all (· ≤ reachBytes) = true := hsz0
  have hW' := hW
  obtain ⟨p, q, hA0, hV, rfl, hfz, hnd⟩ := hW
  have hA : DataW.TrodAll enc Try.prog W 0 (fun _ => true) true Try.f4.params.toList args.toList ds p := hA0
  rw [Try.params4] at hA hval hsz
  obtain ⟨v0, vs0, d0, ds0, p0, q0, hargs, rfl, rfl, h0, r0⟩ := trodAll_cons hA
  obtain ⟨v1, vs1, d1, ds1, p1, q1, rfl, rfl, rfl, h1, r1⟩ := trodAll_cons r0
  obtain ⟨rfl, rfl, rfl⟩ := trodAll_nil r1
  obtain rfl : args = #[v0, v1] := by cases args; simp_all
  obtain ⟨rfl, rfl⟩ := trodVars_none hV
  have hw : ∀ (j : Nat) (t : TypeId) (d : DataW H), ([26, 3] ++ Rows.verifyUsesSpec.plain.varTypes Try.prog)[j]? = some t → ([d0, d1] ++ [])[j]? = some d → ∀ n ∈ d.weights Try.prog t, n ≤ reachBytes := fun j t d ht hd n hn =>
    of_decide_eq_true (List.all_eq_true.1 hsz _ (DataW.weights_mem_each ht hd n hn))
  obtain ⟨cs0, rfl, hcs0⟩ := okWide_struct Try.underlying26 (hval 0 26 v0 rfl rfl)
  have lt0 : ∀ x ∈ p0, x.block < W.heap.size := by obtain ⟨m, hm⟩ := h0; exact DataW.trod_lt m _ _ _ hm
  obtain ⟨z0, s0, e0, in0⟩ := cd_in hcs0 h0
  subst e0
  obtain ⟨a1, rfl, rfl, rfl, w1⟩ := open_int Try.underlying3 (hval 1 3 v1 rfl rfl) h1
  clear hA0 hval0
  refine (uses_walk z0 s0 a1 W in0).mono fun e W' ⟨he, bel⟩ => ?_
  subst he
  exact ⟨_, rfl, _, _, _, [], _, [], hW', trodAll_mk1 (shut_bool Try.underlying4 _), (trodAll_cons_mk (Below.trod laidOut (by kernel_rfl) (of_decide_eq_true (by kernel_rfl)) h0 bel lt0) (trodAll_cons_mk (shut_int Try.underlying3 w1) trodAll_mk0)), rfl, bel.frame _, fun h => by cases h⟩
end verifyUses

theorem verifyUses_holds : Rows.VerifyUsesSaid :=
  OpenClaim.holds_of_wide 4 Try.f4 rfl rfl rfl rfl rfl rfl rfl ⟨rfl, rfl, rfl, rfl, rfl⟩ rfl rfl rfl rfl rfl (by kernel_rfl) Try.func4 (by kernel_rfl)
    (of_decide_eq_true (by kernel_rfl)) (by unfold Func.isWrapper; first | (rw [if_pos (by decide +kernel)]; kernel_rfl) | (rw [if_neg (by decide +kernel)]; exact ⟨rfl, rfl⟩))
    (fun os started H enc _ => verifyUses.lifted os started H enc)

end Go.Proofs.Ytdbfcclmmpcijaa
