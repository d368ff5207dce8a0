/-
  The document's own walk through all paths from a cell on.
-/
import Derived.Test.YtegndeefddlccaaQaC
import Derived.Deep.RegionLaw
import Derived.Deep.DeepCutAuto
namespace Go.Proofs.Ytegndeefddlccaa
open Go.RowKit

theorem goes_few (m : Md) (nx ny : Nat) : ∀ (n : Nat) (p : Pt) (i j : Int), (goesL m nx ny n p i j).length ≤ 4 ^ n
  | 0, _, _, _ => by simp [goesL]
  | n + 1, p, i, j => by
    have h1 : (if endB m nx ny i j then [p] else []).length ≤ 1 := by split <;> simp
    have h4 : 1 ≤ 4 ^ n := Nat.one_le_pow _ _ (by decide)
    have hc : ∀ c : UInt8, (if hasB m nx ny (i + dnB c) (j + ovB c) then goesL m nx ny n ⟨p.i, p.j, p.cols ++ [c]⟩ (i + dnB c) (j + ovB c) else []).length ≤ 4 ^ n := by
      intro c
      split
      · exact goes_few m nx ny n _ _ _
      · simp
    rw [goesL, List.length_append, Nat.pow_succ]
    have h2 : ((kindsB m).flatMap fun c => if hasB m nx ny (i + dnB c) (j + ovB c) then goesL m nx ny n ⟨p.i, p.j, p.cols ++ [c]⟩ (i + dnB c) (j + ovB c) else []).length ≤ 3 * 4 ^ n := by
      unfold kindsB
      split
      · simp only [List.flatMap_cons, List.flatMap_nil, List.append_nil]
        have := hc 77
        omega
      · simp only [List.flatMap_cons, List.flatMap_nil, List.append_nil, List.length_append]
        have := hc 77
        have := hc 68
        have := hc 73
        omega
    omega
def kidL (m : Md) (nx ny n : Nat) (p : Pt) (i j : Int) (c : UInt8) : List Pt := if hasB m nx ny (i + dnB c) (j + ovB c) then goesL m nx ny n ⟨p.i, p.j, p.cols ++ [c]⟩ (i + dnB c) (j + ovB c) else []
def headL (m : Md) (nx ny : Nat) (p : Pt) (i j : Int) : List Pt := if endB m nx ny i j then [p] else []
theorem kid_few (m : Md) (nx ny n : Nat) (p : Pt) (i j : Int) (c : UInt8) : (kidL m nx ny n p i j c).length ≤ 4 ^ n := by
  unfold kidL
  split
  · exact goes_few m nx ny n _ _ _
  · simp
theorem kids_take (m : Md) (nx ny n : Nat) (p : Pt) (i j : Int) : ∀ (l : List UInt8), (l.flatMap (kidL m nx ny n p i j)).length ≤ l.length * 4 ^ n
  | [] => by simp
  | c :: l => by
    have h1 := kids_take m nx ny n p i j l
    have h2 := kid_few m nx ny n p i j c
    rw [List.flatMap_cons, List.length_append, List.length_cons, Nat.add_mul, Nat.one_mul]
    omega
theorem kids_snoc (m : Md) (nx ny n : Nat) (p : Pt) (i j : Int) (l : List UInt8) (k : Nat) (c : UInt8) (h : l[k]? = some c) : (l.take (k + 1)).flatMap (kidL m nx ny n p i j) = (l.take k).flatMap (kidL m nx ny n p i j) ++ kidL m nx ny n p i j c := by
  rw [take_snocD _ _ _ h, List.flatMap_append]
  simp
theorem bs_snoc (l : List UInt8) (s : ByteArray) (k q : Nat) (h : k < s.size) (hq : q = k + 1) : bs l ++ s.extract k q = bs (l ++ [s[k]]) := by
  subst hq
  have e : (bs l ++ s.extract k (k + 1)).data.toList = (bs (l ++ [s[k]])).data.toList := by
    rw [ByteArray.data_append, Array.toList_append, bs_back, bs_back, ByteArray.data_extract, Array.toList_extract]
    congr 1
    have hl : k < s.data.toList.length := by rw [ba_size]; exact h
    have := ba_list s k h
    rw [List.extract_eq_take_drop, List.drop_eq_getElem_cons hl]
    have e2 : s.data.toList[k] = s[k] := (List.getElem?_eq_some_iff.1 this).2
    rw [e2, show k + 1 - k = 1 by omega]
    rfl
  have : (bs l ++ s.extract k (k + 1)).data = (bs (l ++ [s[k]])).data := Array.toList_inj.1 e
  cases h1 : bs l ++ s.extract k (k + 1) with
  | mk a =>
    cases h2 : bs (l ++ [s[k]]) with
    | mk b => rw [h1, h2] at this; exact congrArg ByteArray.mk this
def GoPost (d : Fd12) (fb B : Nat) (L : List Pt) (va : Option Addr) (w : World) (e : Ending) (w' : World) : Prop :=
  e = .returned (.tuple #[]) ∧ ∃ va' vc', FnAt d fb B L va' vc' w' ∧ FnTo fb va va' w w'
/-- What a finder must be. -/
structure FdGood (d : Fd12) : Prop where
  gaps : d.m.gaps.length = d.gn
  few : d.xn + d.yn ≤ 8
set_option maxRecDepth 20000 in
set_option maxHeartbeats 4000000 in
theorem goes_calls (d : Fd12) (hd : FdGood d) (fb B : Nat) : ∀ (n : Nat) (p : Pt) (i j : Int) (L : List Pt) (va0 : Option Addr) (vc0 : Nat) (w : World), FnAt d fb B L va0 vc0 w → 0 ≤ i → i ≤ d.xn → 0 ≤ j → j ≤ d.yn → (d.xn : Int) + d.yn + 1 ≤ n + i + j → p.cols.length + n ≤ 100 → L.length + 4 ^ n ≤ 1000000000 →
    Calls Try.prog 36 #[.pointer (some ⟨fb, 0, none⟩), .agg #[.int .i64 p.i, .int .i64 p.j, .string (bs p.cols)], .int .i64 i, .int .i64 j] w fun e w' => GoPost d fb B (L ++ goesL d.m d.xn d.yn n p i j) va0 w e w'
  | 0, p, i, j, L, va0, vc0, w, h, hi0, hi, hj0, hj, hn, hc, hL => by exfalso; simp at hn; omega
  | n + 1, p, i, j, L, va0, vc0, w, h, hi0, hi, hj0, hj, hn, hc, hL => by
    have hxy := hd.few
    have hp4 : 4 ^ (n + 1) = 4 * 4 ^ n := by rw [Nat.pow_succ]; omega
    have h4 : 1 ≤ 4 ^ n := Nat.one_le_pow _ _ (by decide)
    have IH : Hid (∀ (c : UInt8) (s : ByteArray) (a b : Int) (L' : List Pt) (va : Option Addr) (vc : Nat) (W : World), FnAt d fb B L' va vc W → hasB d.m d.xn d.yn a b = true → 1 ≤ dnB c + ovB c → a = i + dnB c → b = j + ovB c → s = bs (p.cols ++ [c]) → L'.length + 4 ^ n ≤ 1000000000 →
        Calls Try.prog 36 #[.pointer (some ⟨fb, 0, none⟩), .agg #[.int .i64 p.i, .int .i64 p.j, .string s], .int .i64 a, .int .i64 b] W fun e w' => GoPost d fb B (L' ++ goesL d.m d.xn d.yn n ⟨p.i, p.j, p.cols ++ [c]⟩ a b) va W e w') := by
      intro c s a b L' va vc W hW hh hc1 ea eb hs hL'
      have hr := hasB_rng hh
      rw [hs]
      exact goes_calls d hd fb B n ⟨p.i, p.j, p.cols ++ [c]⟩ a b L' va vc W hW hr.1 hr.2.1 hr.2.2.1 hr.2.2.2 (by rw [Int.natCast_add] at hn; omega) (by show (p.cols ++ [c]).length + n ≤ 100; rw [List.length_append]; simp; omega) hL'
    have hx8 : d.xn ≤ maxLen := by unfold maxLen; omega
    have hy8 : d.yn ≤ maxLen := by unfold maxLen; omega
    obtain ⟨E, hE⟩ : ∃ E, endB d.m d.xn d.yn i j = E := ⟨_, rfl⟩
    have HEnd : Hid (headL d.m d.xn d.yn p i j = if E then [p] else []) := by show _ = _; unfold headL; rw [hE]
    have HGo : Hid (goesL d.m d.xn d.yn (n + 1) p i j = headL d.m d.xn d.yn p i j ++ (kindsB d.m).flatMap (kidL d.m d.xn d.yn n p i j)) := rfl
    have CE : Hid (∀ W, Calls Try.prog 55 #[.agg #[.int .i64 d.m.letters, .slice d.sa d.sn d.sc, .slice d.ga d.gn d.gc, .int .i64 d.m.mode, .bool d.m.banded, .int .i64 d.m.lo, .int .i64 d.m.hi, .int .i64 d.m.front, .int .i64 d.m.back, .int .i64 d.m.least], .int .i64 (d.xn : Int), .int .i64 (d.yn : Int), .int .i64 i, .int .i64 j] W fun e w' => e = .returned (.bool E) ∧ Below W.heap.size W w') := fun W => by
      have := endsR_calls d.m d.sa d.sn d.sc d.ga d.gn d.gc d.xn d.yn i j W
      rw [hE] at this
      exact this
    have HG0 : Hid (GoSt d fb B va0 p w L va0 vc0 (w.alloc (.cells #[.int .i64 p.i, .int .i64 p.j, .string (bs p.cols)] 33))) := GoSt.start h
    have hfbw : fb < w.heap.size := h.fb_lt
    have HGaps : Hid (d.m.gaps.length = d.gn) := hd.gaps
    have HF : Hid (∀ L va vc W, GoSt d fb B va0 p w L va vc W → (W.cell? ⟨fb, 0, none⟩ = some (.int .i64 d.m.letters) ∧ W.cell? ⟨fb, 1, none⟩ = some (.slice d.sa d.sn d.sc) ∧ W.cell? ⟨fb, 2, none⟩ = some (.slice d.ga d.gn d.gc) ∧ W.cell? ⟨fb, 3, none⟩ = some (.int .i64 d.m.mode) ∧ W.cell? ⟨fb, 4, none⟩ = some (.bool d.m.banded) ∧ W.cell? ⟨fb, 5, none⟩ = some (.int .i64 d.m.lo) ∧ W.cell? ⟨fb, 6, none⟩ = some (.int .i64 d.m.hi) ∧ W.cell? ⟨fb, 7, none⟩ = some (.int .i64 d.m.front) ∧ W.cell? ⟨fb, 8, none⟩ = some (.int .i64 d.m.back) ∧ W.cell? ⟨fb, 9, none⟩ = some (.int .i64 d.m.least) ∧ W.cell? ⟨fb, 10, none⟩ = some (.slice d.xa d.xn d.xc) ∧ W.cell? ⟨fb, 11, none⟩ = some (.slice d.ya d.yn d.yc) ∧ W.cell? ⟨fb, 12, none⟩ = some (.slice va L.length vc)) ∧ W.cell? ⟨w.heap.size, 0, none⟩ = some (.int .i64 p.i) ∧ W.cell? ⟨w.heap.size, 1, none⟩ = some (.int .i64 p.j) ∧ W.cell? ⟨w.heap.size, 2, none⟩ = some (.string (bs p.cols))) := fun L va vc W hW => ⟨⟨hW.fcell 0 _ rfl, hW.fcell 1 _ rfl, hW.fcell 2 _ rfl, hW.fcell 3 _ rfl, hW.fcell 4 _ rfl, hW.fcell 5 _ rfl, hW.fcell 6 _ rfl, hW.fcell 7 _ rfl, hW.fcell 8 _ rfl, hW.fcell 9 _ rfl, hW.fcell 10 _ rfl, hW.fcell 11 _ rfl, hW.fcell 12 _ rfl⟩, hW.pcell⟩
    have hLb : L.length + 4 * 4 ^ n ≤ 1000000000 := by omega
    clear h hE hn hL hp4
    have HHd : Hid (i ≤ d.xn ∧ j ≤ d.yn) := ⟨hi, hj⟩
    go_enter Try.func36, Try.ntmps36
    obtain ⟨J, hJ⟩ : ∃ J : World → Prop, J = GoSt d fb B va0 p w L va0 vc0 := ⟨_, rfl⟩
    have HJE : Hid (J = GoSt d fb B va0 p w L va0 vc0) := hJ
    have HJF : Hid (∀ W, J W → (W.cell? ⟨fb, 0, none⟩ = some (.int .i64 d.m.letters) ∧ W.cell? ⟨fb, 1, none⟩ = some (.slice d.sa d.sn d.sc) ∧ W.cell? ⟨fb, 2, none⟩ = some (.slice d.ga d.gn d.gc) ∧ W.cell? ⟨fb, 3, none⟩ = some (.int .i64 d.m.mode) ∧ W.cell? ⟨fb, 4, none⟩ = some (.bool d.m.banded) ∧ W.cell? ⟨fb, 5, none⟩ = some (.int .i64 d.m.lo) ∧ W.cell? ⟨fb, 6, none⟩ = some (.int .i64 d.m.hi) ∧ W.cell? ⟨fb, 7, none⟩ = some (.int .i64 d.m.front) ∧ W.cell? ⟨fb, 8, none⟩ = some (.int .i64 d.m.back) ∧ W.cell? ⟨fb, 9, none⟩ = some (.int .i64 d.m.least) ∧ W.cell? ⟨fb, 10, none⟩ = some (.slice d.xa d.xn d.xc) ∧ W.cell? ⟨fb, 11, none⟩ = some (.slice d.ya d.yn d.yc) ∧ W.cell? ⟨fb, 12, none⟩ = some (.slice va0 L.length vc0)) ∧ W.cell? ⟨w.heap.size, 0, none⟩ = some (.int .i64 p.i) ∧ W.cell? ⟨w.heap.size, 1, none⟩ = some (.int .i64 p.j) ∧ W.cell? ⟨w.heap.size, 2, none⟩ = some (.string (bs p.cols))) := by rw [hJ]; exact fun W hW => HF.out _ _ _ _ hW
    have HJN : Hid (∀ W W2, J W → Below W.heap.size W W2 → J W2) := by rw [hJ]; exact fun W W2 h1 h2 => h1.next h2
    have j0 : J (w.alloc (.cells #[.int .i64 p.i, .int .i64 p.j, .string (bs p.cols)] 33)) := by rw [hJ]; exact HG0.out
    have jd : J (w.alloc (.cells #[.int .i64 p.i, .int .i64 p.j, .string (bs p.cols)] 33)).drew := HJN.out _ _ j0 (Below.refl _ _).drew
    clear hJ HG0
    go_wp2_with fail
    go_region_held3 (fun W => J W ∧ (W.cell? ⟨fb, 0, none⟩ = some (.int .i64 d.m.letters) ∧ W.cell? ⟨fb, 1, none⟩ = some (.slice d.sa d.sn d.sc) ∧ W.cell? ⟨fb, 2, none⟩ = some (.slice d.ga d.gn d.gc) ∧ W.cell? ⟨fb, 3, none⟩ = some (.int .i64 d.m.mode) ∧ W.cell? ⟨fb, 4, none⟩ = some (.bool d.m.banded) ∧ W.cell? ⟨fb, 5, none⟩ = some (.int .i64 d.m.lo) ∧ W.cell? ⟨fb, 6, none⟩ = some (.int .i64 d.m.hi) ∧ W.cell? ⟨fb, 7, none⟩ = some (.int .i64 d.m.front) ∧ W.cell? ⟨fb, 8, none⟩ = some (.int .i64 d.m.back) ∧ W.cell? ⟨fb, 9, none⟩ = some (.int .i64 d.m.least) ∧ W.cell? ⟨fb, 10, none⟩ = some (.slice d.xa d.xn d.xc) ∧ W.cell? ⟨fb, 11, none⟩ = some (.slice d.ya d.yn d.yc) ∧ W.cell? ⟨fb, 12, none⟩ = some (.slice va0 L.length vc0)) ∧ W.cell? ⟨w.heap.size, 0, none⟩ = some (.int .i64 p.i) ∧ W.cell? ⟨w.heap.size, 1, none⟩ = some (.int .i64 p.j) ∧ W.cell? ⟨w.heap.size, 2, none⟩ = some (.string (bs p.cols))) (first | with_reducible assumption | (refine ⟨?_, HJF.out _ ?_⟩ <;> with_reducible assumption)) (first
      | (go_at_call 55; (with_reducible refine (CE.out _).mono ?_); rintro e w6 ⟨rfl, hb6⟩; have j6 : J w6 := HJN.out _ _ (by with_reducible assumption) hb6; clear hb6))
    rename_i hh
    clear hh j0 jd CE
    have HG6 : Hid (GoSt d fb B va0 p w L va0 vc0 w6) := by rw [← HJE.out]; exact j6
    clear j6 HJE HJF HJN
    obtain ⟨M, hM⟩ : ∃ M, L ++ headL d.m d.xn d.yn p i j = M := ⟨_, rfl⟩
    have HMe : Hid (L ++ headL d.m d.xn d.yn p i j = M) := hM
    have hMl : M.length ≤ L.length + 1 := by
      rw [← hM, List.length_append, HEnd.out]
      cases E <;> simp
    clear hM
    go_upto_if 31 with (fail)
    go_cut [] (fun w7 => ∃ va vc, GoSt d fb B va0 p w M va vc w7)
    case first =>
      cases E with
      | false =>
        have HM : Hid (M = L) := by show _ = _; rw [← HMe.out, HEnd.out]; simp
        go_wp2
        go_meet
        exact ⟨va0, vc0, by rw [HM.out]; exact HG6.out⟩
      | true =>
        have HM : Hid (M = L ++ [p]) := by show _ = _; rw [← HMe.out, HEnd.out]; simp
        obtain ⟨i33, hi3, hz0, hz1, hz2⟩ := info_parts info33
        have hF1 : ∀ W, GoSt d fb B va0 p w L va0 vc0 W → W.cell? ⟨fb, 12, none⟩ = some (.slice va0 L.length vc0) ∧ W.cell? ⟨w.heap.size, 0, none⟩ = some (.int .i64 p.i) ∧ W.cell? ⟨w.heap.size, 1, none⟩ = some (.int .i64 p.j) ∧ W.cell? ⟨w.heap.size, 2, none⟩ = some (.string (bs p.cols)) := fun W hW => ⟨hW.fcell 12 _ rfl, hW.pcell⟩
        have hJd : GoSt d fb B va0 p w L va0 vc0 w6.drew := HG6.out.next (Below.refl _ _).drew
        obtain ⟨x1, x2, x3, x4⟩ := hF1 _ hJd
        have hao : ∀ o, GoSt d fb B va0 p w L va0 vc0 (w6.alloc o).drew := fun o => (HG6.out.next (bl1 _ _)).next (Below.refl _ _).drew
        have x1o : ∀ o, (w6.alloc o).drew.cell? ⟨fb, 12, none⟩ = some (.slice va0 L.length vc0) := fun o => (hF1 _ (hao o)).1
        have x2o : ∀ o, (w6.alloc o).drew.cell? ⟨w.heap.size, 0, none⟩ = some (.int .i64 p.i) := fun o => (hF1 _ (hao o)).2.1
        have x3o : ∀ o, (w6.alloc o).drew.cell? ⟨w.heap.size, 1, none⟩ = some (.int .i64 p.j) := fun o => (hF1 _ (hao o)).2.2.1
        have x4o : ∀ o, (w6.alloc o).drew.cell? ⟨w.heap.size, 2, none⟩ = some (.string (bs p.cols)) := fun o => (hF1 _ (hao o)).2.2.2
        have HJd : Hid (GoSt d fb B va0 p w L va0 vc0 w6.drew) := hJd
        have HJO : Hid (∀ W o, Hid (GoSt d fb B va0 p w L va0 vc0 W) → (W.alloc o).ownsRow B 33 3 (.slice va0 L.length vc0) L.length (ptRow L)) := fun W o hW => (hW.out.next (bl1 W o)).fn.row
        have HJS : Hid (∀ W o, Hid (GoSt d fb B va0 p w L va0 vc0 W) → B ≤ (W.alloc o).heap.size) := fun W o hW => (hW.out.next (bl1 W o)).fn.big
        have hfne : fb ≠ w.heap.size := by omega
        clear hJd hF1 hao
        go_wp2_with fail
        go_region_law (first
          | (refine step_append_fresh rfl (.tmp 36) (.tmp 38) 38 rfl B 33 i33 _ 3 32 Try.underlying38 hi3 hz0 hz1 hz2 rfl (by decide) _ _ _ (by simp [Act.eval]) (HJO.out _ _ (by assumption)) ⟨_, 0, none⟩ 1 1 [.int .i64 p.i, .int .i64 p.j, .string (bs p.cols)] (by simp [Act.eval]) rfl (cells_new _ [.int .i64 p.i, .int .i64 p.j, .string (bs p.cols)] 33) (pt_one p) (by unfold maxLen; omega) (by omega) (HJS.out _ _ (by assumption)) ?_
             intro v' w4 ho hg hnew
             obtain ⟨k1, k2, ⟨k3, k4, k5⟩, k6⟩ := HJd.out.add hfne (q := p) ho hg hnew
             obtain ⟨va, vc, rfl⟩ := shape_pts ho
             clear ho hg hnew))
        all_goals (
          have HK : Hid (GoSt d fb B va0 p w (L ++ [p]) va vc (w4.setCell ⟨fb, 12, none⟩ (.slice va (L.length + 1) vc))) := by
            obtain ⟨va', vc', q3, q4⟩ := k6
            cases q3
            exact q4
          clear k6
          go_wp2
          go_meet
          exact ⟨va, vc, by rw [HM.out]; exact HK.out⟩)
    case rest =>
      rename World => w7
      obtain ⟨va, vc, hg7⟩ := hcut
      have HG7 : Hid (GoSt d fb B va0 p w M va vc w7) := hg7
      clear hg7 HG6 HEnd
      obtain ⟨f0, f1, f2, f3, f4, f5, f6, f7, f8, f9, f10, f11, f12⟩ := (HF.out _ _ _ _ HG7.out).1
      obtain ⟨ks, hks⟩ : ∃ ks, bs (kindsB d.m) = ks := ⟨_, rfl⟩
      have HKs : Hid (bs (kindsB d.m) = ks) := hks
      clear hks
      go_upto_if 48 with (fail)
      go_cut [9] (fun v wc => v = .string ks ∧ w7 = wc)
      case first =>
        by_cases hg0 : d.gn = 0
        · have e0 : ((d.gn : Int) == 0) = true := by rw [hg0]; rfl
          have HK : Hid (ks = ⟨#[77]⟩) := by
            show _ = _
            have hg : d.m.gaps = [] := List.eq_nil_of_length_eq_zero (by rw [HGaps.out]; exact hg0)
            rw [← HKs.out]
            unfold kindsB
            rw [if_pos hg]
            rfl
          clear hg0
          go_wp2
          go_meet
          exact ⟨by rw [HK.out], rfl⟩
        · have e0 : ((d.gn : Int) == 0) = false := by simp; omega
          have HK : Hid (ks = ⟨#[77, 68, 73]⟩) := by
            show _ = _
            have hg : d.m.gaps ≠ [] := fun e => hg0 (by rw [← HGaps.out, e]; rfl)
            rw [← HKs.out]
            unfold kindsB
            rw [if_neg hg]
            rfl
          go_wp2
          go_meet
          exact ⟨by rw [HK.out], rfl⟩
      case rest =>
        obtain ⟨rfl, rfl⟩ := hcut
        clear f0 f1 f2 f3 f4 f5 f6 f7 f8 f9 f10 f11 f12
        have HKl : Hid (ks.data.toList = kindsB d.m) := by show _ = _; rw [← HKs.out, bs_back]
        have hks3 : ks.size ≤ 3 := by
          rw [← ba_size, HKl.out]
          unfold kindsB
          split <;> simp
        clear HKs
        go_wp2_with fail
        go_loopw [10] (fun k wq => ∃ (x : Nat) (va : Option Addr) (vc : Nat), x ≤ ks.size ∧ k = .int .i64 x ∧ GoSt d fb B va0 p w (M ++ ((kindsB d.m).take x).flatMap (kidL d.m d.xn d.yn n p i j)) va vc wq) (fun k _ => ks.size - (intOf k).toNat)
        case atStart => exact ⟨0, va, vc, Nat.zero_le _, rfl, by simpa using HG7.out⟩
        case round =>
          clear HG7
          obtain ⟨x, va, vc, hx, rfl, hgs⟩ := hrel
          obtain ⟨L', hL'⟩ : ∃ L', M ++ ((kindsB d.m).take x).flatMap (kidL d.m d.xn d.yn n p i j) = L' := ⟨_, rfl⟩
          rw [hL'] at hgs
          have HG : Hid (GoSt d fb B va0 p w L' va vc wr) := hgs
          have HLe : Hid (M ++ ((kindsB d.m).take x).flatMap (kidL d.m d.xn d.yn n p i j) = L') := hL'
          clear hgs hL'
          by_cases hxk : x < ks.size
          · have hll : L'.length + 4 ^ n ≤ 1000000000 := by
              have h1 := kids_take d.m d.xn d.yn n p i j ((kindsB d.m).take x)
              have h2 : ((kindsB d.m).take x).length ≤ 2 := by rw [List.length_take]; omega
              have h3 : ((kindsB d.m).take x).length * 4 ^ n ≤ 2 * 4 ^ n := Nat.mul_le_mul_right _ h2
              rw [← HLe.out, List.length_append]
              omega
            obtain ⟨c, hcq⟩ : ∃ c, ks[x] = c := ⟨_, rfl⟩
            have HKc : Hid ((kindsB d.m)[x]? = some c) := by
              show _ = _
              rw [← HKl.out, ← hcq]
              exact ba_list ks x hxk
            have HCq : Hid (ks[x] = c) := hcq
            have HAd : Hid (1 ≤ dnB c + ovB c) := go_adds (mem_kinds.1 (List.mem_of_getElem? HKc.out))
            clear hcq
            have b1 := dn_rng c
            have b2 := ov_rng c
            go_wp2_with fail
            rw [HCq.out]
            refine (down_calls c _).mono ?_
            rintro e w8 ⟨rfl, rfl⟩
            go_wp2_with fail
            rw [HCq.out]
            refine (over_calls c _).mono ?_
            rintro e w8 ⟨rfl, rfl⟩
            have HSn : Hid (M ++ ((kindsB d.m).take (x + 1)).flatMap (kidL d.m d.xn d.yn n p i j) = L' ++ kidL d.m d.xn d.yn n p i j c) := by
              show _ = _
              rw [kids_snoc _ _ _ _ _ _ _ _ _ _ HKc.out, ← HLe.out, List.append_assoc]
            obtain ⟨H, hH⟩ : ∃ H, hasB d.m d.xn d.yn (i + dnB c) (j + ovB c) = H := ⟨_, rfl⟩
            have HH : Hid (hasB d.m d.xn d.yn (i + dnB c) (j + ovB c) = H) := hH
            have CC : Hid (∀ W, Calls Try.prog 34 #[.agg #[.int .i64 d.m.letters, .slice d.sa d.sn d.sc, .slice d.ga d.gn d.gc, .int .i64 d.m.mode, .bool d.m.banded, .int .i64 d.m.lo, .int .i64 d.m.hi, .int .i64 d.m.front, .int .i64 d.m.back, .int .i64 d.m.least], .int .i64 (d.xn : Int), .int .i64 (d.yn : Int), .int .i64 (i + dnB c), .int .i64 (j + ovB c)] W fun e w' => e = .returned (.bool H) ∧ Below W.heap.size W w') := fun W => by
              have := counts_calls d.m d.sa d.sn d.sc d.ga d.gn d.gc d.xn d.yn (i + dnB c) (j + ovB c) W hx8 hy8
              rw [hH] at this
              exact this
            clear hH
            obtain ⟨J, hJ⟩ : ∃ J : World → Prop, J = GoSt d fb B va0 p w L' va vc := ⟨_, rfl⟩
            have HJE : Hid (J = GoSt d fb B va0 p w L' va vc) := hJ
            have HJF : Hid (∀ W, J W → (W.cell? ⟨fb, 0, none⟩ = some (.int .i64 d.m.letters) ∧ W.cell? ⟨fb, 1, none⟩ = some (.slice d.sa d.sn d.sc) ∧ W.cell? ⟨fb, 2, none⟩ = some (.slice d.ga d.gn d.gc) ∧ W.cell? ⟨fb, 3, none⟩ = some (.int .i64 d.m.mode) ∧ W.cell? ⟨fb, 4, none⟩ = some (.bool d.m.banded) ∧ W.cell? ⟨fb, 5, none⟩ = some (.int .i64 d.m.lo) ∧ W.cell? ⟨fb, 6, none⟩ = some (.int .i64 d.m.hi) ∧ W.cell? ⟨fb, 7, none⟩ = some (.int .i64 d.m.front) ∧ W.cell? ⟨fb, 8, none⟩ = some (.int .i64 d.m.back) ∧ W.cell? ⟨fb, 9, none⟩ = some (.int .i64 d.m.least) ∧ W.cell? ⟨fb, 10, none⟩ = some (.slice d.xa d.xn d.xc) ∧ W.cell? ⟨fb, 11, none⟩ = some (.slice d.ya d.yn d.yc) ∧ W.cell? ⟨fb, 12, none⟩ = some (.slice va L'.length vc)) ∧ W.cell? ⟨w.heap.size, 0, none⟩ = some (.int .i64 p.i) ∧ W.cell? ⟨w.heap.size, 1, none⟩ = some (.int .i64 p.j) ∧ W.cell? ⟨w.heap.size, 2, none⟩ = some (.string (bs p.cols))) := by rw [hJ]; exact fun W hW => HF.out _ _ _ _ hW
            have HJN : Hid (∀ W W2, J W → Below W.heap.size W W2 → J W2) := by rw [hJ]; exact fun W W2 h1 h2 => h1.next h2
            have j0 : J wr := by rw [hJ]; exact HG.out
            have jd : J wr.drew := HJN.out _ _ j0 (Below.refl _ _).drew
            clear hJ HG
            go_wp2_with fail
            go_region_held3 (fun W => J W ∧ (W.cell? ⟨fb, 0, none⟩ = some (.int .i64 d.m.letters) ∧ W.cell? ⟨fb, 1, none⟩ = some (.slice d.sa d.sn d.sc) ∧ W.cell? ⟨fb, 2, none⟩ = some (.slice d.ga d.gn d.gc) ∧ W.cell? ⟨fb, 3, none⟩ = some (.int .i64 d.m.mode) ∧ W.cell? ⟨fb, 4, none⟩ = some (.bool d.m.banded) ∧ W.cell? ⟨fb, 5, none⟩ = some (.int .i64 d.m.lo) ∧ W.cell? ⟨fb, 6, none⟩ = some (.int .i64 d.m.hi) ∧ W.cell? ⟨fb, 7, none⟩ = some (.int .i64 d.m.front) ∧ W.cell? ⟨fb, 8, none⟩ = some (.int .i64 d.m.back) ∧ W.cell? ⟨fb, 9, none⟩ = some (.int .i64 d.m.least) ∧ W.cell? ⟨fb, 10, none⟩ = some (.slice d.xa d.xn d.xc) ∧ W.cell? ⟨fb, 11, none⟩ = some (.slice d.ya d.yn d.yc) ∧ W.cell? ⟨fb, 12, none⟩ = some (.slice va L'.length vc)) ∧ W.cell? ⟨w.heap.size, 0, none⟩ = some (.int .i64 p.i) ∧ W.cell? ⟨w.heap.size, 1, none⟩ = some (.int .i64 p.j) ∧ W.cell? ⟨w.heap.size, 2, none⟩ = some (.string (bs p.cols))) (first | with_reducible assumption | (refine ⟨?_, HJF.out _ ?_⟩ <;> with_reducible assumption)) (first
              | (go_at_call 34; (with_reducible refine (CC.out _).mono ?_); rintro e w9 ⟨rfl, hb9⟩; have j9 : J w9 := HJN.out _ _ (by with_reducible assumption) hb9; clear hb9))
            rename_i hh
            clear hh j0 jd CC
            have HG9 : Hid (GoSt d fb B va0 p w L' va vc w9) := by rw [← HJE.out]; exact j9
            clear j9 HJE HJF HJN
            cases H with
            | false =>
              have HKd : Hid (kidL d.m d.xn d.yn n p i j c = []) := by show _ = _; unfold kidL; rw [HH.out]; rfl
              go_wp2
              go_roundw
              case rel => exact ⟨x + 1, va, vc, by omega, by go_num, by rw [HSn.out, HKd.out, List.append_nil]; exact HG9.out⟩
              case measure => simp [intOf]; omega
            | true =>
              have HKd : Hid (kidL d.m d.xn d.yn n p i j c = goesL d.m d.xn d.yn n ⟨p.i, p.j, p.cols ++ [c]⟩ (i + dnB c) (j + ovB c)) := by show _ = _; unfold kidL; rw [HH.out]; rfl
              obtain ⟨q, hq⟩ : ∃ q, x + 1 = q := ⟨_, rfl⟩
              have hqi : (x : Int) + 1 = (q : Int) := by omega
              have hxq : x ≤ q := by omega
              have hqk : q ≤ ks.size := by omega
              have HQ : Hid (q = x + 1) := hq.symm
              have hwq : IntKind.i64.wrap (q : Int) = (q : Int) := (IntWalk.i64_left _).trans (by unfold wrap64; omega)
              have hfne : fb ≠ w.heap.size := by omega
              have hcat : ∀ W, (Op.stringOp .add (bs p.cols) (ks.extract x q)).run Try.prog W = .ok (.string (bs (p.cols ++ [c]))) W := fun W => by
                have h1 : (bs p.cols).size + (ks.extract x q).size ≤ 1000 := by rw [bs_len, ByteArray.size_extract]; omega
                rw [run_string_add_sum W _ _ (by omega), bs_snoc _ _ _ _ hxk HQ.out, HCq.out]
              have CR : Hid (Calls Try.prog 36 #[.pointer (some ⟨fb, 0, none⟩), .agg #[.int .i64 p.i, .int .i64 p.j, .string (bs (p.cols ++ [c]))], .int .i64 (i + dnB c), .int .i64 (j + ovB c)] w9.drew fun e w' => GoPost d fb B (L' ++ goesL d.m d.xn d.yn n ⟨p.i, p.j, p.cols ++ [c]⟩ (i + dnB c) (j + ovB c)) va w9.drew e w') :=
                IH.out c _ _ _ L' va vc w9.drew (HG9.out.next (Below.refl _ _).drew).fn HH.out HAd.out rfl rfl rfl hll
              have hPk : ∀ W, GoSt d fb B va0 p w L' va vc W → W.cell? ⟨w.heap.size, 0, none⟩ = some (.int .i64 p.i) ∧ W.cell? ⟨w.heap.size, 1, none⟩ = some (.int .i64 p.j) ∧ W.cell? ⟨w.heap.size, 2, none⟩ = some (.string (bs p.cols)) := fun W hW => hW.pcell
              have hPk2 : ∀ va2 vc2 W, GoSt d fb B va0 p w (L' ++ goesL d.m d.xn d.yn n ⟨p.i, p.j, p.cols ++ [c]⟩ (i + dnB c) (j + ovB c)) va2 vc2 W → W.cell? ⟨w.heap.size, 0, none⟩ = some (.int .i64 p.i) ∧ W.cell? ⟨w.heap.size, 1, none⟩ = some (.int .i64 p.j) ∧ W.cell? ⟨w.heap.size, 2, none⟩ = some (.string (bs p.cols)) := fun va2 vc2 W hW => hW.pcell
              obtain ⟨y1, y2, y3⟩ := hPk _ (HG9.out.next (Below.refl _ _).drew)
              clear hq hPk
              go_wp2_with fail
              go_region_held3 (fun W => W.cell? ⟨w.heap.size, 0, none⟩ = some (.int .i64 p.i) ∧ W.cell? ⟨w.heap.size, 1, none⟩ = some (.int .i64 p.j) ∧ W.cell? ⟨w.heap.size, 2, none⟩ = some (.string (bs p.cols))) (first | with_reducible assumption | (refine ⟨?_, ?_, ?_⟩ <;> with_reducible assumption)) (first
                | (go_at_call 36; (with_reducible refine (CR.out).mono ?_); rintro e wA ⟨rfl, va', vc', hfn, hto⟩; have hgA := (HG9.out.next (Below.refl _ _).drew).call hfn hto hfne; obtain ⟨z1, z2, z3⟩ := hPk2 _ _ _ hgA; clear hfn hto))
              have HGA : Hid (GoSt d fb B va0 p w (L' ++ goesL d.m d.xn d.yn n ⟨p.i, p.j, p.cols ++ [c]⟩ (i + dnB c) (j + ovB c)) va' vc' wA) := hgA
              rename_i hh
              clear hh hgA z1 z2 z3 y1 y2 y3 CR hPk2 IH
              go_wp2
              go_roundw
              case rel => exact ⟨x + 1, va', vc', by omega, by go_num, by rw [HSn.out, HKd.out]; exact HGA.out⟩
              case measure => simp [intOf]; omega
          · have HF9 : Hid (L' = L ++ goesL d.m d.xn d.yn (n + 1) p i j) := by
              show _ = _
              rw [← HLe.out, HGo.out, ← List.append_assoc, HMe.out, List.take_of_length_le (by rw [← HKl.out, ba_size]; omega)]
            rw [HF9.out] at HG
            clear HF9 HLe HMe HGo HKl HF IH
            go_wp2
            go_end0
            exact ⟨rfl, va, vc, HG.out.fn, HG.out.to⟩

end Go.Proofs.Ytegndeefddlccaa
