/-
  The walk of instructions.
-/
import Derived.Test.YtdbfcclmmpcijaaVrI
namespace Go.Proofs.Ytdbfcclmmpcijaa
open Go.RowKit

theorem go_nil (c : Cd) (S : St) (k : Nat) : goP c S k [] = ((-1, 0), S) := rfl
theorem go_bad {c : Cd} {S : St} {k : Nat} {q : Qd} {l : List Qd} {e : Int} (h : errB c S q = e) (he : e ≠ 0) : goP c S k (q :: l) = (((k : Int), e), S) := by
  rw [goP, if_neg (by rw [h]; exact he), h]
theorem go_ok {c : Cd} {S : St} {k : Nat} {q : Qd} {l : List Qd} (h : errB c S q = 0) : goP c S k (q :: l) = goP c (pastP S q) (k + 1) l := by
  rw [goP, if_pos h]
/-- What is told of the instructions. -/
def InsPost (w0 w : World) (b : Nat) (c : Cd) (s : Ls) (e : Ending) (w' : World) : Prop :=
  e = .returned (.tuple #[.int .i64 (goP c (st0 0) 0 c.cell).1.1, .int .i64 (goP c (st0 0) 0 c.cell).1.2]) ∧ (∃ wv, Lk w0 w' b c s (goP c (st0 0) 0 c.cell).2 wv) ∧ Bd (goP c (st0 0) 0 c.cell).2 1000 ∧ Below b w w'
theorem ins_post {w0 w w' : World} {b : Nat} {c : Cd} {s : Ls} {S : St} {wv : Nat → Value} {a e : Int} (h : goP c (st0 0) 0 c.cell = ((a, e), S)) (hl : Lk w0 w' b c s S wv) (hb : Bd S 1000) (hw : Below b w w') : InsPost w0 w b c s (.returned (.tuple #[.int .i64 a, .int .i64 e])) w' := by
  unfold InsPost; rw [h]; exact ⟨rfl, ⟨wv, hl⟩, hb, hw⟩
set_option maxRecDepth 10000 in
set_option maxHeartbeats 2000000 in
theorem instructions_calls {w0 w : World} {b : Nat} {c : Cd} {s : Ls} {wv : Nat → Value} (h : Lk w0 w b c s (st0 0) wv) (hr : Rt c) :
    Calls Try.prog 20 #[.pointer (some ⟨b, 0, none⟩)] w (InsPost w0 w b c s) := by
  obtain ⟨sT, sK, ⟨ia, n, ic⟩, sR⟩ := s
  have HR : Hid (Rt c) := hr
  have c8 := h.code 8 (by omega) (v := .slice ia n ic) rfl
  have hn : n ≤ 1000 := by have := h.cd.cell.length; simp only at this; rw [← this]; exact hr.clen
  have HN : Hid (c.cell.length = n) := h.cd.cell.length
  have HL : Hid (Lk w0 w b c ⟨sT, sK, ⟨ia, n, ic⟩, sR⟩ (st0 0) wv) := h
  have hres : Try.f20.results = #[.tmp 2, .tmp 3] := by kernel_rfl
  clear h hr
  go_enter Try.func20, Try.ntmps20
  go_wp2
  go_step3
  go_wp2
  go_step3
  go_wp2
  go_loopg [4, 5, 6, 7, 14] n (fun g a4 a5 _ _ i wr => ∃ (k : Nat) (S : St) (wv : Nat → Value), k + g = n ∧ i = .int .i64 k ∧ a4 = .int .i64 (-1) ∧ a5 = .int .i64 0 ∧ goP c (st0 0) 0 c.cell = goP c S k (c.cell.drop k) ∧ Lk w0 wr b c ⟨sT, sK, ⟨ia, n, ic⟩, sR⟩ S wv ∧ Bd S k ∧ Below b w wr)
  case atStart => exact ⟨0, st0 0, wv, Nat.zero_add _, rfl, rfl, rfl, rfl, HL.out, Bd.start, Below.refl _ _⟩
  case round =>
    clear HL c8
    obtain ⟨k, S, wv, hk, rfl, rfl, rfl, hgo, hl, hbd, hlow⟩ := hrel
    have HG : Hid (goP c (st0 0) 0 c.cell = goP c S k (c.cell.drop k)) := hgo
    have HK : Hid (Lk w0 wr b c ⟨sT, sK, ⟨ia, n, ic⟩, sR⟩ S wv) := hl
    have HB : Hid (Bd S k) := hbd
    have HW : Hid (Below b w wr) := hlow
    clear hgo hl hbd hlow
    by_cases hlt : k < n
    · have hkl : k < c.cell.length := by rw [HN.out]; exact hlt
      obtain ⟨q, hq⟩ := get_lt (l := c.cell) (k := k) hkl
      have hrc := HR.out.cell q (List.mem_of_getElem? hq)
      obtain ⟨bb, off, hra, hcs⟩ := HK.out.at'.cell.cells (show 0 < n by omega)
      have hra2 : ia = some ⟨bb, off, none⟩ := hra
      clear hra
      subst hra2
      obtain ⟨c1, c2, c3, c4⟩ := hcs k q hq
      have HD : Hid (c.cell.drop k = q :: c.cell.drop (k + 1)) := by
        show _ = _
        rw [List.drop_eq_getElem_cons hkl]
        rw [List.getElem?_eq_getElem hkl] at hq
        cases hq; rfl
      rw [HD.out] at HG
      clear hcs hq hkl HD
      obtain ⟨o, x0, y0, z0⟩ := q
      simp only at c1 c2 c3 c4 hrc
      obtain ⟨x, rfl⟩ : ∃ x : Nat, x0 = (x : Int) := ⟨x0.toNat, by omega⟩
      obtain ⟨y, rfl⟩ : ∃ y : Nat, y0 = (y : Int) := ⟨y0.toNat, by omega⟩
      obtain ⟨z, rfl⟩ : ∃ z : Nat, z0 = (z : Int) := ⟨z0.toNat, by omega⟩
      have HO : Hid (1 ≤ o ∧ o ≤ 8) := hrc.1
      clear hrc
      have HI0 : Hid (Li w0 wr (wr.alloc (.cells #[.int .i64 o, .int .i64 (x : Int), .int .i64 (y : Int), .int .i64 (z : Int)] 35)) b c ⟨sT, sK, ⟨some ⟨bb, off, none⟩, n, ic⟩, sR⟩ S wv o x y z) := Li.start HK.out o x y z
      have hbw := HK.out.lt
      have HBk : Hid (Bd S 1000) := HB.out.mono (by omega)
      have HLo : Hid (∀ w2, Below wr.heap.size wr w2 → Below b w w2) := fun w2 h2 => HW.out.trans (h2.mono (Nat.le_of_lt HK.out.lt))
      obtain ⟨r1, h1⟩ : ∃ r, namB c (o, (x : Int), (y : Int), (z : Int)) = r := ⟨_, rfl⟩
      have H1 : Hid (namB c (o, (x : Int), (y : Int), (z : Int)) = r1) := h1
      clear h1
      go_wp2_with fail
      refine (named_calls HI0.out.lk o x y z).mono ?_
      rintro e w1 ⟨rfl, hb⟩
      rw [H1.out]
      have HI1 : Hid (Li w0 wr w1 b c ⟨sT, sK, ⟨some ⟨bb, off, none⟩, n, ic⟩, sR⟩ S wv o x y z) := HI0.out.next hb
      clear hb HI0 c1 c2 c3 c4
      cases r1
      · have HE : Hid (errB c S (o, (x : Int), (y : Int), (z : Int)) = 162) := by show _ = _; rw [errB, if_pos H1.out]
        go_wp2
        try rw [Exit.noGoto_ret]
        go_ret2
        exact ins_post (HG.out.trans (go_bad HE.out (by decide))) HI1.out.lk HBk.out (HLo.out _ HI1.out.low)
      have HM : Hid (Nm o x y) := nm_of HR.out HO.out.1 HO.out.2 H1.out
      obtain ⟨r2, h2⟩ : ∃ r, rdB S (o, (x : Int), (y : Int), (z : Int)) = r := ⟨_, rfl⟩
      have H2 : Hid (rdB S (o, (x : Int), (y : Int), (z : Int)) = r2) := h2
      clear h2
      have d0 := HI1.out.i0
      have d1 := HI1.out.i1
      have d2 := HI1.out.i2
      have d3 := HI1.out.i3
      go_wp2_with fail
      refine (readable_calls HI1.out.lk o x y z HM.out).mono ?_
      rintro e w2 ⟨rfl, hb⟩
      rw [H2.out]
      have HI2 : Hid (Li w0 wr w2 b c ⟨sT, sK, ⟨some ⟨bb, off, none⟩, n, ic⟩, sR⟩ S wv o x y z) := HI1.out.next hb
      clear hb HI1 d0 d1 d2 d3
      cases r2
      · have HE : Hid (errB c S (o, (x : Int), (y : Int), (z : Int)) = 163) := by show _ = _; rw [errB, if_neg (by rw [H1.out]; decide), if_pos H2.out]
        go_wp2
        try rw [Exit.noGoto_ret]
        go_ret2
        exact ins_post (HG.out.trans (go_bad HE.out (by decide))) HI2.out.lk HBk.out (HLo.out _ HI2.out.low)
      obtain ⟨r3, h3⟩ : ∃ r, twB S (o, (x : Int), (y : Int), (z : Int)) = r := ⟨_, rfl⟩
      have H3 : Hid (twB S (o, (x : Int), (y : Int), (z : Int)) = r3) := h3
      clear h3
      have d0 := HI2.out.i0
      have d1 := HI2.out.i1
      have d2 := HI2.out.i2
      have d3 := HI2.out.i3
      go_wp2_with fail
      refine (keptTwice_calls HI2.out.lk o x y z HM.out).mono ?_
      rintro e w3 ⟨rfl, hb⟩
      rw [H3.out]
      have HI3 : Hid (Li w0 wr w3 b c ⟨sT, sK, ⟨some ⟨bb, off, none⟩, n, ic⟩, sR⟩ S wv o x y z) := HI2.out.next hb
      clear hb HI2 d0 d1 d2 d3
      cases r3
      rotate_left
      · have HE : Hid (errB c S (o, (x : Int), (y : Int), (z : Int)) = 164) := by show _ = _; rw [errB, if_neg (by rw [H1.out]; decide), if_neg (by rw [H2.out]; decide), if_pos H3.out]
        go_wp2
        try rw [Exit.noGoto_ret]
        go_ret2
        exact ins_post (HG.out.trans (go_bad HE.out (by decide))) HI3.out.lk HBk.out (HLo.out _ HI3.out.low)
      obtain ⟨r4, h4⟩ : ∃ r, gdB c S (o, (x : Int), (y : Int), (z : Int)) = r := ⟨_, rfl⟩
      have H4 : Hid (gdB c S (o, (x : Int), (y : Int), (z : Int)) = r4) := h4
      clear h4
      have d0 := HI3.out.i0
      have d1 := HI3.out.i1
      have d2 := HI3.out.i2
      have d3 := HI3.out.i3
      go_wp2_with fail
      refine (good_calls HI3.out.lk o x y z HM.out).mono ?_
      rintro e w4 ⟨rfl, hb⟩
      rw [H4.out]
      have HI4 : Hid (Li w0 wr w4 b c ⟨sT, sK, ⟨some ⟨bb, off, none⟩, n, ic⟩, sR⟩ S wv o x y z) := HI3.out.next hb
      clear hb HI3 d0 d1 d2 d3
      cases r4
      · have HE : Hid (errB c S (o, (x : Int), (y : Int), (z : Int)) = 161) := by show _ = _; rw [errB, if_neg (by rw [H1.out]; decide), if_neg (by rw [H2.out]; decide), if_neg (by rw [H3.out]; decide), if_pos H4.out]
        go_wp2
        try rw [Exit.noGoto_ret]
        go_ret2
        exact ins_post (HG.out.trans (go_bad HE.out (by decide))) HI4.out.lk HBk.out (HLo.out _ HI4.out.low)
      have HE : Hid (errB c S (o, (x : Int), (y : Int), (z : Int)) = 0) := by show _ = _; rw [errB, if_neg (by rw [H1.out]; decide), if_neg (by rw [H2.out]; decide), if_neg (by rw [H3.out]; decide), if_neg (by rw [H4.out]; decide)]
      have d0 := HI4.out.i0
      have d1 := HI4.out.i1
      have d2 := HI4.out.i2
      have d3 := HI4.out.i3
      go_wp2_with fail
      refine (past_calls HI4.out.lk o x y z HM.out HBk.out).mono ?_
      rintro e w5 ⟨rfl, hl5, hb⟩
      have HF : Hid (Below b w w5) := (HLo.out _ HI4.out.low).trans hb
      have HL5 : Hid (∃ wv', Lk w0 w5 b c ⟨sT, sK, ⟨some ⟨bb, off, none⟩, n, ic⟩, sR⟩ (pastP S (o, (x : Int), (y : Int), (z : Int))) wv') := hl5
      clear hb hl5 d0 d1 d2 d3
      go_wp2
      go_roundg (gk - 1)
      case rel =>
        obtain ⟨wv5, hl⟩ := HL5.out
        exact ⟨k + 1, _, wv5, by omega, by go_num, rfl, rfl, HG.out.trans (go_ok HE.out), hl, HB.out.past _, HF.out⟩
      case measure => omega
    · have hd : Hid (c.cell.drop k = []) := List.drop_of_length_le (by rw [HN.out]; omega)
      go_wp2
      try rw [Exit.noGoto_ret]
      go_ret2
      exact ins_post (by rw [HG.out, hd.out, go_nil]) HK.out (HB.out.mono (by omega)) HW.out
end Go.Proofs.Ytdbfcclmmpcijaa
