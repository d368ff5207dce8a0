/-
  The walks of cell and arrows.
-/
import Derived.Test.YtignpgoicoojiaaDoorRdG
import Derived.Test.YtignpgoicoojiaaDoorLnA
namespace Go.Proofs.YtignpgoicoojiaaDoor
open Go.RowKit

theorem qsR_len (t : List UInt8) : ∀ (n : Nat) (st : Sr), (qsR t n st).1.length = n
  | 0, _ => rfl
  | n + 1, st => by rw [qsR]; simp [qsR_len t n]
theorem qsR_succ (t : List UInt8) : ∀ (n : Nat) (st : Sr), qsR t (n + 1) st = ((qsR t n st).1 ++ [(qdR t (qsR t n st).2).1], (qdR t (qsR t n st).2).2)
  | 0, st => rfl
  | n + 1, st => by
    rw [qsR, qsR_succ t n]
    rfl
theorem qdVals_rep (n : Nat) : qdVals (List.replicate n (0, 0, 0, 0)) = List.replicate (n * 4) (.int .i64 0) := by
  induction n with
  | zero => rfl
  | succ n ih =>
    rw [List.replicate_succ, show qdVals ((0, 0, 0, 0) :: List.replicate n (0, 0, 0, 0)) = qdCells (0, 0, 0, 0) ++ qdVals (List.replicate n (0, 0, 0, 0)) from rfl, ih, show (n + 1) * 4 = 4 + n * 4 by omega, ← List.replicate_append_replicate]
    rfl
theorem row4_set (l : List Qd) (k : Nat) (q q2 : Qd) (hk : l[k]? = some q) : ((((qdVals l).set (k * 4) (.int .i64 q2.1)).set (k * 4 + 1) (.int .i64 q2.2.1)).set (k * 4 + 2) (.int .i64 q2.2.2.1)).set (k * 4 + 3) (.int .i64 q2.2.2.2) = qdVals (l.set k q2) := by
  have e0 := flat_set qd_len l k q (q2.1, q.2.1, q.2.2.1, q.2.2.2) 0 (.int .i64 q2.1) hk (by decide) rfl
  have hlt : k < l.length := (List.getElem?_eq_some_iff.1 hk).1
  have k1 : (l.set k (q2.1, q.2.1, q.2.2.1, q.2.2.2))[k]? = some (q2.1, q.2.1, q.2.2.1, q.2.2.2) := List.getElem?_set_self hlt
  have e1 := flat_set qd_len (l.set k (q2.1, q.2.1, q.2.2.1, q.2.2.2)) k _ (q2.1, q2.2.1, q.2.2.1, q.2.2.2) 1 (.int .i64 q2.2.1) k1 (by decide) rfl
  rw [List.set_set] at e1
  have k2 : (l.set k (q2.1, q2.2.1, q.2.2.1, q.2.2.2))[k]? = some (q2.1, q2.2.1, q.2.2.1, q.2.2.2) := List.getElem?_set_self hlt
  have e2 := flat_set qd_len (l.set k (q2.1, q2.2.1, q.2.2.1, q.2.2.2)) k _ (q2.1, q2.2.1, q2.2.2.1, q.2.2.2) 2 (.int .i64 q2.2.2.1) k2 (by decide) rfl
  rw [List.set_set] at e2
  have k3 : (l.set k (q2.1, q2.2.1, q2.2.2.1, q.2.2.2))[k]? = some (q2.1, q2.2.1, q2.2.2.1, q.2.2.2) := List.getElem?_set_self hlt
  have e3 := flat_set qd_len (l.set k (q2.1, q2.2.1, q2.2.2.1, q.2.2.2)) k _ q2 3 (.int .i64 q2.2.2.2) k3 (by decide) rfl
  rw [List.set_set] at e3
  rw [Nat.add_zero] at e0
  unfold qdVals
  rw [e0, e1, e2, e3]

set_option maxRecDepth 10000 in
set_option maxHeartbeats 4000000 in
theorem cell_calls (b : Nat) (s : ByteArray) (st : Sr) (n : Nat) (w : World) (h : Rd w b s st) (hn : n ≤ 1000) : QdsC 57 38 w b s st n := by
  unfold QdsC
  have HR : Hid (Rd w b s st) := h
  have hbl : b < w.heap.size := lt_block h.box
  clear h
  obtain ⟨i0, hi, hz0, hz1, hz2⟩ := info_parts info38
  go_enter Tryd.func57, Tryd.ntmps57
  go_wp2_with (at_make; refine wpList_make_full _ rfl _ _ 23 rfl w.heap.size 38 i0 (.agg #[.int .i64 0, .int .i64 0, .int .i64 0, .int .i64 0]) 4 Tryd.underlying23 hi hz0 hz1 .i64 .i64 _ _ n rfl rfl rfl rfl (by rw [hz2]; omega) (by unfold maxLen; omega) (Nat.le_refl _) ?_)
  intro w3 hown3 hgrow3
  have H3 : Hid (w3.ownsRow w.heap.size 38 4 (.slice (some ⟨w.heap.size, 0, none⟩) n n) n (qdVals ((qsR s.data.toList 0 st).1 ++ List.replicate (n - 0) (0, 0, 0, 0))) ∧ Rd w3 b s (qsR s.data.toList 0 st).2 ∧ w.grownBy w3 (some b)) := by
    refine ⟨?_, HR.out.other hgrow3 (by simp), grown_also (grown_refl _ _) hgrow3⟩
    rw [made_four] at hown3
    show w3.ownsRow w.heap.size 38 4 (.slice (some ⟨w.heap.size, 0, none⟩) n n) n (qdVals (List.replicate n (0, 0, 0, 0)))
    rw [qdVals_rep]
    exact hown3
  clear hown3 hgrow3 HR hi hz0 hz1 hz2
  obtain ⟨g, hg⟩ : ∃ g, g = w.heap.size := ⟨_, rfl⟩
  have HG : Hid (w.heap.size = g) := hg.symm
  rw [← hg] at H3 hbl
  clear hg
  rw [HG.out]
  go_wp2
  go_loopw [6, 11] (fun _ i wq => ∃ k : Nat, k ≤ n ∧ i = .int .i64 k ∧ wq.ownsRow g 38 4 (.slice (some ⟨g, 0, none⟩) n n) n (qdVals ((qsR s.data.toList k st).1 ++ List.replicate (n - k) (0, 0, 0, 0))) ∧ Rd wq b s (qsR s.data.toList k st).2 ∧ w.grownBy wq (some b)) (fun _ i _ => n - (intOf i).toNat)
  case atStart => exact ⟨0, Nat.zero_le _, rfl, H3.out.1, H3.out.2.1, H3.out.2.2⟩
  case round =>
    obtain ⟨k, hk, rfl, hown, hrd, hgr⟩ := hrel
    clear H3
    by_cases hlt : k < n
    · obtain ⟨m, hm⟩ : ∃ m, n - k = m + 1 := ⟨n - k - 1, by omega⟩
      rw [hm] at hown
      have HM : Hid (n - (k + 1) = m) := by show _ = _; omega
      have hlen := qsR_len s.data.toList k st
      have HNN : Hid (qsR s.data.toList (k + 1) st = ((qsR s.data.toList k st).1 ++ [(qdR s.data.toList (qsR s.data.toList k st).2).1], (qdR s.data.toList (qsR s.data.toList k st).2).2)) := qsR_succ _ _ _
      obtain ⟨l, hl⟩ : ∃ l, (qsR s.data.toList k st).1 = l := ⟨_, rfl⟩
      obtain ⟨sk, hsk⟩ : ∃ sk, (qsR s.data.toList k st).2 = sk := ⟨_, rfl⟩
      rw [hl] at hown hlen HNN
      rw [hsk] at hrd HNN
      obtain ⟨ra, hra⟩ : ∃ r, numR s.data.toList sk = r := ⟨_, rfl⟩
      obtain ⟨rb, hrb⟩ : ∃ r, numR s.data.toList ra.2 = r := ⟨_, rfl⟩
      obtain ⟨rc, hrc⟩ : ∃ r, numR s.data.toList rb.2 = r := ⟨_, rfl⟩
      obtain ⟨re, hre⟩ : ∃ r, numR s.data.toList rc.2 = r := ⟨_, rfl⟩
      have HQ : Hid (qdR s.data.toList sk = ((ra.1, rb.1, rc.1, re.1), re.2)) := by show _ = _; simp only [qdR]; rw [hra, hrb, hrc, hre]
      rw [HQ.out] at HNN
      have Ha : Hid (numR s.data.toList sk = ra) := hra
      have Hb : Hid (numR s.data.toList ra.2 = rb) := hrb
      have Hc : Hid (numR s.data.toList rb.2 = rc) := hrc
      have He : Hid (numR s.data.toList rc.2 = re) := hre
      have HS : Hid (wr.ownsRow g 38 4 (.slice (some ⟨g, 0, none⟩) n n) n (qdVals (l ++ List.replicate (m + 1) (0, 0, 0, 0))) ∧ Rd wr b s sk ∧ w.grownBy wr (some b)) := ⟨hown, hrd, hgr⟩
      clear hown hrd hgr hm hl hsk hra hrb hrc hre HQ
      go_upto_region 5 with (fail)
      have HS0 : Hid (wr.drew.ownsRow g 38 4 (.slice (some ⟨g, 0, none⟩) n n) n (qdVals (l ++ List.replicate (m + 1) (0, 0, 0, 0))) ∧ Rd wr.drew b s sk ∧ w.grownBy wr.drew (some b)) := ⟨own_rd HS.out.1 (by decide) HS.out.2.1 grown_drew, HS.out.2.1.drew, grown_trans HS.out.2.2 grown_drew⟩
      clear HS
      refine wp_region_Y (fun j => [20].contains j) (fun W : World => True) (by kernel_rfl) ?_
      refine wpAnyY_pure (i := 0) 14 (v := .slice (some ⟨g, 0, none⟩) n n) rfl rfl (by kernel_rfl) (by kernel_rfl) (by kernel_rfl) (fun _ _ _ h => h) (Or.inl ⟨by rfl, by (intro W _; go_simp)⟩) ?_
      simp only [Act.put, List.setIfInBounds_toArray, List.set_cons_succ, List.set_cons_zero]
      refine wpAnyY_pure (i := 1) 15 (v := .int .i64 (k : Int)) rfl rfl (by kernel_rfl) (by kernel_rfl) (by kernel_rfl) (fun _ _ _ h => h) (Or.inl ⟨by rfl, by (intro W _; go_simp)⟩) ?_
      simp only [Act.put, List.setIfInBounds_toArray, List.set_cons_succ, List.set_cons_zero]
      refine wpAnyY_pure (i := 2) 16 (v := .pointer (some ⟨b, 0, none⟩)) rfl rfl (by kernel_rfl) (by kernel_rfl) (by kernel_rfl) (fun _ _ _ h => h) (Or.inl ⟨by rfl, by (intro W _; go_simp)⟩) ?_
      simp only [Act.put, List.setIfInBounds_toArray, List.set_cons_succ, List.set_cons_zero]
      refine wpAnyY_pure (i := 3) 17 (v := .pointer (some ⟨b, 0, none⟩)) rfl rfl (by kernel_rfl) (by kernel_rfl) (by kernel_rfl) (fun _ _ _ h => h) (Or.inl ⟨by rfl, by (intro W _; go_simp)⟩) ?_
      simp only [Act.put, List.setIfInBounds_toArray, List.set_cons_succ, List.set_cons_zero]
      refine wpAnyY_pure (i := 4) 18 (v := .pointer (some ⟨b, 0, none⟩)) rfl rfl (by kernel_rfl) (by kernel_rfl) (by kernel_rfl) (fun _ _ _ h => h) (Or.inl ⟨by rfl, by (intro W _; go_simp)⟩) ?_
      simp only [Act.put, List.setIfInBounds_toArray, List.set_cons_succ, List.set_cons_zero]
      refine wpAnyY_pure (i := 6) 20 (v := .pointer (some ⟨b, 0, none⟩)) rfl rfl (by kernel_rfl) (by kernel_rfl) (by kernel_rfl) (fun _ _ _ h => h) (Or.inl ⟨by rfl, by (intro W _; go_simp)⟩) ?_
      simp only [Act.put, List.setIfInBounds_toArray, List.set_cons_succ, List.set_cons_zero]
      refine wpAnyY_pure (i := 7) 21 (v := .pointer (some ⟨b, 0, none⟩)) rfl rfl (by kernel_rfl) (by kernel_rfl) (by kernel_rfl) (fun _ _ _ h => h) (Or.inl ⟨by rfl, by (intro W _; go_simp)⟩) ?_
      simp only [Act.put, List.setIfInBounds_toArray, List.set_cons_succ, List.set_cons_zero]
      refine wpAnyY_pure (i := 8) 22 (v := .pointer (some ⟨b, 0, none⟩)) rfl rfl (by kernel_rfl) (by kernel_rfl) (by kernel_rfl) (fun _ _ _ h => h) (Or.inl ⟨by rfl, by (intro W _; go_simp)⟩) ?_
      simp only [Act.put, List.setIfInBounds_toArray, List.set_cons_succ, List.set_cons_zero]
      refine wpAnyY_pure (i := 10) 24 (v := .pointer (some ⟨b, 0, none⟩)) rfl rfl (by kernel_rfl) (by kernel_rfl) (by kernel_rfl) (fun _ _ _ h => h) (Or.inl ⟨by rfl, by (intro W _; go_simp)⟩) ?_
      simp only [Act.put, List.setIfInBounds_toArray, List.set_cons_succ, List.set_cons_zero]
      refine wpAnyY_pure (i := 11) 25 (v := .pointer (some ⟨b, 0, none⟩)) rfl rfl (by kernel_rfl) (by kernel_rfl) (by kernel_rfl) (fun _ _ _ h => h) (Or.inl ⟨by rfl, by (intro W _; go_simp)⟩) ?_
      simp only [Act.put, List.setIfInBounds_toArray, List.set_cons_succ, List.set_cons_zero]
      refine wpAnyY_pure (i := 12) 26 (v := .pointer (some ⟨b, 0, none⟩)) rfl rfl (by kernel_rfl) (by kernel_rfl) (by kernel_rfl) (fun _ _ _ h => h) (Or.inl ⟨by rfl, by (intro W _; go_simp)⟩) ?_
      simp only [Act.put, List.setIfInBounds_toArray, List.set_cons_succ, List.set_cons_zero]
      refine wpAnyY_pure (i := 14) 28 (v := .pointer (some ⟨b, 0, none⟩)) rfl rfl (by kernel_rfl) (by kernel_rfl) (by kernel_rfl) (fun _ _ _ h => h) (Or.inl ⟨by rfl, by (intro W _; go_simp)⟩) ?_
      simp only [Act.put, List.setIfInBounds_toArray, List.set_cons_succ, List.set_cons_zero]
      refine wpAnyY_pure (i := 15) 29 (v := .pointer (some ⟨b, 0, none⟩)) rfl rfl (by kernel_rfl) (by kernel_rfl) (by kernel_rfl) (fun _ _ _ h => h) (Or.inl ⟨by rfl, by (intro W _; go_simp)⟩) ?_
      simp only [Act.put, List.setIfInBounds_toArray, List.set_cons_succ, List.set_cons_zero]
      refine wpAnyY_pure (i := 16) 30 (v := .pointer (some ⟨b, 0, none⟩)) rfl rfl (by kernel_rfl) (by kernel_rfl) (by kernel_rfl) (fun _ _ _ h => h) (Or.inl ⟨by rfl, by (intro W _; go_simp)⟩) ?_
      simp only [Act.put, List.setIfInBounds_toArray, List.set_cons_succ, List.set_cons_zero]
      refine wpAnyY_one (i := 5) rfl (by kernel_rfl) (fun Kc hKc => ?_)
      refine step_fnD 19 rfl (by rfl) 55 _ _ rfl Tryd.f55 Tryd.func55 (by kernel_rfl) (by kernel_rfl) #[.pointer (some ⟨b, 0, none⟩)] (by simp [Act.eval]) (number_calls b s sk _ HS0.out.2.1) ?_
      rintro e v0 ⟨rfl, hr, hgg⟩
      rw [Ha.out] at hr ⊢
      have HS1 : Hid (v0.ownsRow g 38 4 (.slice (some ⟨g, 0, none⟩) n n) n (qdVals (l ++ List.replicate (m + 1) (0, 0, 0, 0))) ∧ Rd v0 b s ra.2 ∧ w.grownBy v0 (some b)) := ⟨own_rd HS0.out.1 (by decide) HS0.out.2.1 hgg, hr, grown_trans HS0.out.2.2 hgg⟩
      clear hr hgg HS0
      refine ⟨_, rfl, hKc.out _ _ (fun _ _ => trivial) ?_⟩
      clear hKc Kc
      simp only [Act.put, List.setIfInBounds_toArray, List.set_cons_succ, List.set_cons_zero]
      refine wpAnyY_one (i := 9) rfl (by kernel_rfl) (fun Kc hKc => ?_)
      refine step_fnD 23 rfl (by rfl) 55 _ _ rfl Tryd.f55 Tryd.func55 (by kernel_rfl) (by kernel_rfl) #[.pointer (some ⟨b, 0, none⟩)] (by simp [Act.eval]) (number_calls b s ra.2 _ HS1.out.2.1) ?_
      rintro e v1 ⟨rfl, hr, hgg⟩
      rw [Hb.out] at hr ⊢
      have HS2 : Hid (v1.ownsRow g 38 4 (.slice (some ⟨g, 0, none⟩) n n) n (qdVals (l ++ List.replicate (m + 1) (0, 0, 0, 0))) ∧ Rd v1 b s rb.2 ∧ w.grownBy v1 (some b)) := ⟨own_rd HS1.out.1 (by decide) HS1.out.2.1 hgg, hr, grown_trans HS1.out.2.2 hgg⟩
      clear hr hgg HS1
      refine ⟨_, rfl, hKc.out _ _ (fun _ _ => trivial) ?_⟩
      clear hKc Kc
      simp only [Act.put, List.setIfInBounds_toArray, List.set_cons_succ, List.set_cons_zero]
      refine wpAnyY_one (i := 13) rfl (by kernel_rfl) (fun Kc hKc => ?_)
      refine step_fnD 27 rfl (by rfl) 55 _ _ rfl Tryd.f55 Tryd.func55 (by kernel_rfl) (by kernel_rfl) #[.pointer (some ⟨b, 0, none⟩)] (by simp [Act.eval]) (number_calls b s rb.2 _ HS2.out.2.1) ?_
      rintro e v2 ⟨rfl, hr, hgg⟩
      rw [Hc.out] at hr ⊢
      have HS3 : Hid (v2.ownsRow g 38 4 (.slice (some ⟨g, 0, none⟩) n n) n (qdVals (l ++ List.replicate (m + 1) (0, 0, 0, 0))) ∧ Rd v2 b s rc.2 ∧ w.grownBy v2 (some b)) := ⟨own_rd HS2.out.1 (by decide) HS2.out.2.1 hgg, hr, grown_trans HS2.out.2.2 hgg⟩
      clear hr hgg HS2
      refine ⟨_, rfl, hKc.out _ _ (fun _ _ => trivial) ?_⟩
      clear hKc Kc
      simp only [Act.put, List.setIfInBounds_toArray, List.set_cons_succ, List.set_cons_zero]
      refine wpAnyY_one (i := 17) rfl (by kernel_rfl) (fun Kc hKc => ?_)
      refine step_fnD 31 rfl (by rfl) 55 _ _ rfl Tryd.f55 Tryd.func55 (by kernel_rfl) (by kernel_rfl) #[.pointer (some ⟨b, 0, none⟩)] (by simp [Act.eval]) (number_calls b s rc.2 _ HS3.out.2.1) ?_
      rintro e v3 ⟨rfl, hr, hgg⟩
      rw [He.out] at hr ⊢
      have HS4 : Hid (v3.ownsRow g 38 4 (.slice (some ⟨g, 0, none⟩) n n) n (qdVals (l ++ List.replicate (m + 1) (0, 0, 0, 0))) ∧ Rd v3 b s re.2 ∧ w.grownBy v3 (some b)) := ⟨own_rd HS3.out.1 (by decide) HS3.out.2.1 hgg, hr, grown_trans HS3.out.2.2 hgg⟩
      clear hr hgg HS3
      refine ⟨_, rfl, hKc.out _ _ (fun _ _ => trivial) ?_⟩
      clear hKc Kc
      simp only [Act.put, List.setIfInBounds_toArray, List.set_cons_succ, List.set_cons_zero]
      have hgk : (l ++ List.replicate (m + 1) ((0, 0, 0, 0) : Qd))[k]? = some (0, 0, 0, 0) := by rw [List.getElem?_append_right (by omega), hlen, Nat.sub_self]; rfl
      obtain ⟨y0, f0⟩ := owned_cells HS4.out.1 (k * 4) (.int .i64 0) (by have := flat_get qd_len _ k _ 0 (.int .i64 0) hgk rfl; rw [Nat.add_zero] at this; exact this)
      obtain ⟨y1, f1⟩ := owned_cells HS4.out.1 (k * 4 + 1) (.int .i64 0) (by have := flat_get qd_len _ k _ 1 (.int .i64 0) hgk rfl; exact this)
      obtain ⟨y2, f2⟩ := owned_cells HS4.out.1 (k * 4 + 2) (.int .i64 0) (by have := flat_get qd_len _ k _ 2 (.int .i64 0) hgk rfl; exact this)
      obtain ⟨y3, f3⟩ := owned_cells HS4.out.1 (k * 4 + 3) (.int .i64 0) (by have := flat_get qd_len _ k _ 3 (.int .i64 0) hgk rfl; exact this)
      clear hgk
      refine wpAnyY_one (i := 18) rfl (by kernel_rfl) (fun Kc hKc => ?_)
      go_simp
      refine hKc.out _ _ (fun _ h => h) ?_
      clear hKc Kc
      refine wpAnyY_one (i := 19) rfl (by kernel_rfl) (fun Kc hKc => ?_)
      go_simp
      refine hKc.out _ _ (fun _ h => h) ?_
      clear hKc Kc
      refine wpAnyY_one (i := 20) rfl (by kernel_rfl) (fun Kc hKc => ?_)
      go_simp
      refine hKc.out _ _ (fun h => absurd h (by decide)) ?_
      clear hKc Kc
      refine wpAnyY_done (by kernel_rfl) ?_ _
      have HF : Hid (((((v3.setCell ⟨g, k * 4, none⟩ (.int .i64 ra.1)).setCell ⟨g, k * 4 + 1, none⟩ (.int .i64 rb.1)).setCell ⟨g, k * 4 + 2, none⟩ (.int .i64 rc.1)).setCell ⟨g, k * 4 + 3, none⟩ (.int .i64 re.1)).ownsRow g 38 4 (.slice (some ⟨g, 0, none⟩) n n) n (qdVals ((qsR s.data.toList (k + 1) st).1 ++ List.replicate (n - (k + 1)) (0, 0, 0, 0))) ∧ Rd ((((v3.setCell ⟨g, k * 4, none⟩ (.int .i64 ra.1)).setCell ⟨g, k * 4 + 1, none⟩ (.int .i64 rb.1)).setCell ⟨g, k * 4 + 2, none⟩ (.int .i64 rc.1)).setCell ⟨g, k * 4 + 3, none⟩ (.int .i64 re.1)) b s (qsR s.data.toList (k + 1) st).2 ∧ w.grownBy ((((v3.setCell ⟨g, k * 4, none⟩ (.int .i64 ra.1)).setCell ⟨g, k * 4 + 1, none⟩ (.int .i64 rb.1)).setCell ⟨g, k * 4 + 2, none⟩ (.int .i64 rc.1)).setCell ⟨g, k * 4 + 3, none⟩ (.int .i64 re.1)) (some b)) := by
        obtain ⟨p1, p2, p3⟩ := HS4.out
        have hne : b ≠ g := rd_ne p2 p1 (by decide)
        rw [HNN.out, HM.out]
        refine ⟨?_, ?_, ?_⟩
        · have := owned_set (owned_set (owned_set (owned_set p1 (k * 4) (.int .i64 ra.1)) (k * 4 + 1) (.int .i64 rb.1)) (k * 4 + 2) (.int .i64 rc.1)) (k * 4 + 3) (.int .i64 re.1)
          rw [row4_set _ k (0, 0, 0, 0) (ra.1, rb.1, rc.1, re.1) (by rw [List.getElem?_append_right (by omega), hlen, Nat.sub_self]; rfl)] at this
          have e : (l ++ List.replicate (m + 1) ((0, 0, 0, 0) : Qd)).set k (ra.1, rb.1, rc.1, re.1) = l ++ [(ra.1, rb.1, rc.1, re.1)] ++ List.replicate m (0, 0, 0, 0) := by
            rw [← hlen]; exact set_mid _ _ _ _
          rw [e] at this
          exact this
        · have hx : some b ≠ some g := fun e => hne (by cases e; rfl)
          exact (((p2.other (grown_set _ g _ _) hx).other (grown_set _ g _ _) hx).other (grown_set _ g _ _) hx).other (grown_set _ g _ _) hx
        · have hg' : w.heap.size ≤ g := by rw [HG.out]; exact Nat.le_refl _
          exact grown_new (grown_new (grown_new (grown_new p3 hg' _ _) hg' _ _) hg' _ _) hg' _ _
      clear HS4 HNN
      go_wp2
      go_roundw
      case rel => exact ⟨k + 1, by omega, by go_num, HF.out.1, HF.out.2.1, HF.out.2.2⟩
      case measure => simp [intOf]; omega
    · have hkn : k = n := by omega
      subst hkn
      have HS : Hid (wr.ownsRow w.heap.size 38 4 (.slice (some ⟨g, 0, none⟩) k k) k (qdVals (qsR s.data.toList k st).1) ∧ Rd wr b s (qsR s.data.toList k st).2 ∧ w.grownBy wr (some b)) := by
        rw [Nat.sub_self, List.replicate_zero, List.append_nil] at hown
        exact ⟨by rw [HG.out]; exact hown, hrd, hgr⟩
      clear hown hrd hgr
      go_wp2
      go_ret
      exact ⟨g, rfl, HS.out.1, HS.out.2.1, HS.out.2.2⟩

set_option maxRecDepth 10000 in
set_option maxHeartbeats 4000000 in
theorem arrows_calls (b : Nat) (s : ByteArray) (st : Sr) (n : Nat) (w : World) (h : Rd w b s st) (hn : n ≤ 1000) : QdsC 58 40 w b s st n := by
  unfold QdsC
  have HR : Hid (Rd w b s st) := h
  have hbl : b < w.heap.size := lt_block h.box
  clear h
  obtain ⟨i0, hi, hz0, hz1, hz2⟩ := info_parts info40
  go_enter Tryd.func58, Tryd.ntmps58
  go_wp2_with (at_make; refine wpList_make_full _ rfl _ _ 24 rfl w.heap.size 40 i0 (.agg #[.int .i64 0, .int .i64 0, .int .i64 0, .int .i64 0]) 4 Tryd.underlying24 hi hz0 hz1 .i64 .i64 _ _ n rfl rfl rfl rfl (by rw [hz2]; omega) (by unfold maxLen; omega) (Nat.le_refl _) ?_)
  intro w3 hown3 hgrow3
  have H3 : Hid (w3.ownsRow w.heap.size 40 4 (.slice (some ⟨w.heap.size, 0, none⟩) n n) n (qdVals ((qsR s.data.toList 0 st).1 ++ List.replicate (n - 0) (0, 0, 0, 0))) ∧ Rd w3 b s (qsR s.data.toList 0 st).2 ∧ w.grownBy w3 (some b)) := by
    refine ⟨?_, HR.out.other hgrow3 (by simp), grown_also (grown_refl _ _) hgrow3⟩
    rw [made_four] at hown3
    show w3.ownsRow w.heap.size 40 4 (.slice (some ⟨w.heap.size, 0, none⟩) n n) n (qdVals (List.replicate n (0, 0, 0, 0)))
    rw [qdVals_rep]
    exact hown3
  clear hown3 hgrow3 HR hi hz0 hz1 hz2
  obtain ⟨g, hg⟩ : ∃ g, g = w.heap.size := ⟨_, rfl⟩
  have HG : Hid (w.heap.size = g) := hg.symm
  rw [← hg] at H3 hbl
  clear hg
  rw [HG.out]
  go_wp2
  go_loopw [6, 11] (fun _ i wq => ∃ k : Nat, k ≤ n ∧ i = .int .i64 k ∧ wq.ownsRow g 40 4 (.slice (some ⟨g, 0, none⟩) n n) n (qdVals ((qsR s.data.toList k st).1 ++ List.replicate (n - k) (0, 0, 0, 0))) ∧ Rd wq b s (qsR s.data.toList k st).2 ∧ w.grownBy wq (some b)) (fun _ i _ => n - (intOf i).toNat)
  case atStart => exact ⟨0, Nat.zero_le _, rfl, H3.out.1, H3.out.2.1, H3.out.2.2⟩
  case round =>
    obtain ⟨k, hk, rfl, hown, hrd, hgr⟩ := hrel
    clear H3
    by_cases hlt : k < n
    · obtain ⟨m, hm⟩ : ∃ m, n - k = m + 1 := ⟨n - k - 1, by omega⟩
      rw [hm] at hown
      have HM : Hid (n - (k + 1) = m) := by show _ = _; omega
      have hlen := qsR_len s.data.toList k st
      have HNN : Hid (qsR s.data.toList (k + 1) st = ((qsR s.data.toList k st).1 ++ [(qdR s.data.toList (qsR s.data.toList k st).2).1], (qdR s.data.toList (qsR s.data.toList k st).2).2)) := qsR_succ _ _ _
      obtain ⟨l, hl⟩ : ∃ l, (qsR s.data.toList k st).1 = l := ⟨_, rfl⟩
      obtain ⟨sk, hsk⟩ : ∃ sk, (qsR s.data.toList k st).2 = sk := ⟨_, rfl⟩
      rw [hl] at hown hlen HNN
      rw [hsk] at hrd HNN
      obtain ⟨ra, hra⟩ : ∃ r, numR s.data.toList sk = r := ⟨_, rfl⟩
      obtain ⟨rb, hrb⟩ : ∃ r, numR s.data.toList ra.2 = r := ⟨_, rfl⟩
      obtain ⟨rc, hrc⟩ : ∃ r, numR s.data.toList rb.2 = r := ⟨_, rfl⟩
      obtain ⟨re, hre⟩ : ∃ r, numR s.data.toList rc.2 = r := ⟨_, rfl⟩
      have HQ : Hid (qdR s.data.toList sk = ((ra.1, rb.1, rc.1, re.1), re.2)) := by show _ = _; simp only [qdR]; rw [hra, hrb, hrc, hre]
      rw [HQ.out] at HNN
      have Ha : Hid (numR s.data.toList sk = ra) := hra
      have Hb : Hid (numR s.data.toList ra.2 = rb) := hrb
      have Hc : Hid (numR s.data.toList rb.2 = rc) := hrc
      have He : Hid (numR s.data.toList rc.2 = re) := hre
      have HS : Hid (wr.ownsRow g 40 4 (.slice (some ⟨g, 0, none⟩) n n) n (qdVals (l ++ List.replicate (m + 1) (0, 0, 0, 0))) ∧ Rd wr b s sk ∧ w.grownBy wr (some b)) := ⟨hown, hrd, hgr⟩
      clear hown hrd hgr hm hl hsk hra hrb hrc hre HQ
      go_upto_region 5 with (fail)
      have HS0 : Hid (wr.drew.ownsRow g 40 4 (.slice (some ⟨g, 0, none⟩) n n) n (qdVals (l ++ List.replicate (m + 1) (0, 0, 0, 0))) ∧ Rd wr.drew b s sk ∧ w.grownBy wr.drew (some b)) := ⟨own_rd HS.out.1 (by decide) HS.out.2.1 grown_drew, HS.out.2.1.drew, grown_trans HS.out.2.2 grown_drew⟩
      clear HS
      refine wp_region_Y (fun j => [20].contains j) (fun W : World => True) (by kernel_rfl) ?_
      refine wpAnyY_pure (i := 0) 14 (v := .slice (some ⟨g, 0, none⟩) n n) rfl rfl (by kernel_rfl) (by kernel_rfl) (by kernel_rfl) (fun _ _ _ h => h) (Or.inl ⟨by rfl, by (intro W _; go_simp)⟩) ?_
      simp only [Act.put, List.setIfInBounds_toArray, List.set_cons_succ, List.set_cons_zero]
      refine wpAnyY_pure (i := 1) 15 (v := .int .i64 (k : Int)) rfl rfl (by kernel_rfl) (by kernel_rfl) (by kernel_rfl) (fun _ _ _ h => h) (Or.inl ⟨by rfl, by (intro W _; go_simp)⟩) ?_
      simp only [Act.put, List.setIfInBounds_toArray, List.set_cons_succ, List.set_cons_zero]
      refine wpAnyY_pure (i := 2) 16 (v := .pointer (some ⟨b, 0, none⟩)) rfl rfl (by kernel_rfl) (by kernel_rfl) (by kernel_rfl) (fun _ _ _ h => h) (Or.inl ⟨by rfl, by (intro W _; go_simp)⟩) ?_
      simp only [Act.put, List.setIfInBounds_toArray, List.set_cons_succ, List.set_cons_zero]
      refine wpAnyY_pure (i := 3) 17 (v := .pointer (some ⟨b, 0, none⟩)) rfl rfl (by kernel_rfl) (by kernel_rfl) (by kernel_rfl) (fun _ _ _ h => h) (Or.inl ⟨by rfl, by (intro W _; go_simp)⟩) ?_
      simp only [Act.put, List.setIfInBounds_toArray, List.set_cons_succ, List.set_cons_zero]
      refine wpAnyY_pure (i := 4) 18 (v := .pointer (some ⟨b, 0, none⟩)) rfl rfl (by kernel_rfl) (by kernel_rfl) (by kernel_rfl) (fun _ _ _ h => h) (Or.inl ⟨by rfl, by (intro W _; go_simp)⟩) ?_
      simp only [Act.put, List.setIfInBounds_toArray, List.set_cons_succ, List.set_cons_zero]
      refine wpAnyY_pure (i := 6) 20 (v := .pointer (some ⟨b, 0, none⟩)) rfl rfl (by kernel_rfl) (by kernel_rfl) (by kernel_rfl) (fun _ _ _ h => h) (Or.inl ⟨by rfl, by (intro W _; go_simp)⟩) ?_
      simp only [Act.put, List.setIfInBounds_toArray, List.set_cons_succ, List.set_cons_zero]
      refine wpAnyY_pure (i := 7) 21 (v := .pointer (some ⟨b, 0, none⟩)) rfl rfl (by kernel_rfl) (by kernel_rfl) (by kernel_rfl) (fun _ _ _ h => h) (Or.inl ⟨by rfl, by (intro W _; go_simp)⟩) ?_
      simp only [Act.put, List.setIfInBounds_toArray, List.set_cons_succ, List.set_cons_zero]
      refine wpAnyY_pure (i := 8) 22 (v := .pointer (some ⟨b, 0, none⟩)) rfl rfl (by kernel_rfl) (by kernel_rfl) (by kernel_rfl) (fun _ _ _ h => h) (Or.inl ⟨by rfl, by (intro W _; go_simp)⟩) ?_
      simp only [Act.put, List.setIfInBounds_toArray, List.set_cons_succ, List.set_cons_zero]
      refine wpAnyY_pure (i := 10) 24 (v := .pointer (some ⟨b, 0, none⟩)) rfl rfl (by kernel_rfl) (by kernel_rfl) (by kernel_rfl) (fun _ _ _ h => h) (Or.inl ⟨by rfl, by (intro W _; go_simp)⟩) ?_
      simp only [Act.put, List.setIfInBounds_toArray, List.set_cons_succ, List.set_cons_zero]
      refine wpAnyY_pure (i := 11) 25 (v := .pointer (some ⟨b, 0, none⟩)) rfl rfl (by kernel_rfl) (by kernel_rfl) (by kernel_rfl) (fun _ _ _ h => h) (Or.inl ⟨by rfl, by (intro W _; go_simp)⟩) ?_
      simp only [Act.put, List.setIfInBounds_toArray, List.set_cons_succ, List.set_cons_zero]
      refine wpAnyY_pure (i := 12) 26 (v := .pointer (some ⟨b, 0, none⟩)) rfl rfl (by kernel_rfl) (by kernel_rfl) (by kernel_rfl) (fun _ _ _ h => h) (Or.inl ⟨by rfl, by (intro W _; go_simp)⟩) ?_
      simp only [Act.put, List.setIfInBounds_toArray, List.set_cons_succ, List.set_cons_zero]
      refine wpAnyY_pure (i := 14) 28 (v := .pointer (some ⟨b, 0, none⟩)) rfl rfl (by kernel_rfl) (by kernel_rfl) (by kernel_rfl) (fun _ _ _ h => h) (Or.inl ⟨by rfl, by (intro W _; go_simp)⟩) ?_
      simp only [Act.put, List.setIfInBounds_toArray, List.set_cons_succ, List.set_cons_zero]
      refine wpAnyY_pure (i := 15) 29 (v := .pointer (some ⟨b, 0, none⟩)) rfl rfl (by kernel_rfl) (by kernel_rfl) (by kernel_rfl) (fun _ _ _ h => h) (Or.inl ⟨by rfl, by (intro W _; go_simp)⟩) ?_
      simp only [Act.put, List.setIfInBounds_toArray, List.set_cons_succ, List.set_cons_zero]
      refine wpAnyY_pure (i := 16) 30 (v := .pointer (some ⟨b, 0, none⟩)) rfl rfl (by kernel_rfl) (by kernel_rfl) (by kernel_rfl) (fun _ _ _ h => h) (Or.inl ⟨by rfl, by (intro W _; go_simp)⟩) ?_
      simp only [Act.put, List.setIfInBounds_toArray, List.set_cons_succ, List.set_cons_zero]
      refine wpAnyY_one (i := 5) rfl (by kernel_rfl) (fun Kc hKc => ?_)
      refine step_fnD 19 rfl (by rfl) 55 _ _ rfl Tryd.f55 Tryd.func55 (by kernel_rfl) (by kernel_rfl) #[.pointer (some ⟨b, 0, none⟩)] (by simp [Act.eval]) (number_calls b s sk _ HS0.out.2.1) ?_
      rintro e v0 ⟨rfl, hr, hgg⟩
      rw [Ha.out] at hr ⊢
      have HS1 : Hid (v0.ownsRow g 40 4 (.slice (some ⟨g, 0, none⟩) n n) n (qdVals (l ++ List.replicate (m + 1) (0, 0, 0, 0))) ∧ Rd v0 b s ra.2 ∧ w.grownBy v0 (some b)) := ⟨own_rd HS0.out.1 (by decide) HS0.out.2.1 hgg, hr, grown_trans HS0.out.2.2 hgg⟩
      clear hr hgg HS0
      refine ⟨_, rfl, hKc.out _ _ (fun _ _ => trivial) ?_⟩
      clear hKc Kc
      simp only [Act.put, List.setIfInBounds_toArray, List.set_cons_succ, List.set_cons_zero]
      refine wpAnyY_one (i := 9) rfl (by kernel_rfl) (fun Kc hKc => ?_)
      refine step_fnD 23 rfl (by rfl) 55 _ _ rfl Tryd.f55 Tryd.func55 (by kernel_rfl) (by kernel_rfl) #[.pointer (some ⟨b, 0, none⟩)] (by simp [Act.eval]) (number_calls b s ra.2 _ HS1.out.2.1) ?_
      rintro e v1 ⟨rfl, hr, hgg⟩
      rw [Hb.out] at hr ⊢
      have HS2 : Hid (v1.ownsRow g 40 4 (.slice (some ⟨g, 0, none⟩) n n) n (qdVals (l ++ List.replicate (m + 1) (0, 0, 0, 0))) ∧ Rd v1 b s rb.2 ∧ w.grownBy v1 (some b)) := ⟨own_rd HS1.out.1 (by decide) HS1.out.2.1 hgg, hr, grown_trans HS1.out.2.2 hgg⟩
      clear hr hgg HS1
      refine ⟨_, rfl, hKc.out _ _ (fun _ _ => trivial) ?_⟩
      clear hKc Kc
      simp only [Act.put, List.setIfInBounds_toArray, List.set_cons_succ, List.set_cons_zero]
      refine wpAnyY_one (i := 13) rfl (by kernel_rfl) (fun Kc hKc => ?_)
      refine step_fnD 27 rfl (by rfl) 55 _ _ rfl Tryd.f55 Tryd.func55 (by kernel_rfl) (by kernel_rfl) #[.pointer (some ⟨b, 0, none⟩)] (by simp [Act.eval]) (number_calls b s rb.2 _ HS2.out.2.1) ?_
      rintro e v2 ⟨rfl, hr, hgg⟩
      rw [Hc.out] at hr ⊢
      have HS3 : Hid (v2.ownsRow g 40 4 (.slice (some ⟨g, 0, none⟩) n n) n (qdVals (l ++ List.replicate (m + 1) (0, 0, 0, 0))) ∧ Rd v2 b s rc.2 ∧ w.grownBy v2 (some b)) := ⟨own_rd HS2.out.1 (by decide) HS2.out.2.1 hgg, hr, grown_trans HS2.out.2.2 hgg⟩
      clear hr hgg HS2
      refine ⟨_, rfl, hKc.out _ _ (fun _ _ => trivial) ?_⟩
      clear hKc Kc
      simp only [Act.put, List.setIfInBounds_toArray, List.set_cons_succ, List.set_cons_zero]
      refine wpAnyY_one (i := 17) rfl (by kernel_rfl) (fun Kc hKc => ?_)
      refine step_fnD 31 rfl (by rfl) 55 _ _ rfl Tryd.f55 Tryd.func55 (by kernel_rfl) (by kernel_rfl) #[.pointer (some ⟨b, 0, none⟩)] (by simp [Act.eval]) (number_calls b s rc.2 _ HS3.out.2.1) ?_
      rintro e v3 ⟨rfl, hr, hgg⟩
      rw [He.out] at hr ⊢
      have HS4 : Hid (v3.ownsRow g 40 4 (.slice (some ⟨g, 0, none⟩) n n) n (qdVals (l ++ List.replicate (m + 1) (0, 0, 0, 0))) ∧ Rd v3 b s re.2 ∧ w.grownBy v3 (some b)) := ⟨own_rd HS3.out.1 (by decide) HS3.out.2.1 hgg, hr, grown_trans HS3.out.2.2 hgg⟩
      clear hr hgg HS3
      refine ⟨_, rfl, hKc.out _ _ (fun _ _ => trivial) ?_⟩
      clear hKc Kc
      simp only [Act.put, List.setIfInBounds_toArray, List.set_cons_succ, List.set_cons_zero]
      have hgk : (l ++ List.replicate (m + 1) ((0, 0, 0, 0) : Qd))[k]? = some (0, 0, 0, 0) := by rw [List.getElem?_append_right (by omega), hlen, Nat.sub_self]; rfl
      obtain ⟨y0, f0⟩ := owned_cells HS4.out.1 (k * 4) (.int .i64 0) (by have := flat_get qd_len _ k _ 0 (.int .i64 0) hgk rfl; rw [Nat.add_zero] at this; exact this)
      obtain ⟨y1, f1⟩ := owned_cells HS4.out.1 (k * 4 + 1) (.int .i64 0) (by have := flat_get qd_len _ k _ 1 (.int .i64 0) hgk rfl; exact this)
      obtain ⟨y2, f2⟩ := owned_cells HS4.out.1 (k * 4 + 2) (.int .i64 0) (by have := flat_get qd_len _ k _ 2 (.int .i64 0) hgk rfl; exact this)
      obtain ⟨y3, f3⟩ := owned_cells HS4.out.1 (k * 4 + 3) (.int .i64 0) (by have := flat_get qd_len _ k _ 3 (.int .i64 0) hgk rfl; exact this)
      clear hgk
      refine wpAnyY_one (i := 18) rfl (by kernel_rfl) (fun Kc hKc => ?_)
      go_simp
      refine hKc.out _ _ (fun _ h => h) ?_
      clear hKc Kc
      refine wpAnyY_one (i := 19) rfl (by kernel_rfl) (fun Kc hKc => ?_)
      go_simp
      refine hKc.out _ _ (fun _ h => h) ?_
      clear hKc Kc
      refine wpAnyY_one (i := 20) rfl (by kernel_rfl) (fun Kc hKc => ?_)
      go_simp
      refine hKc.out _ _ (fun h => absurd h (by decide)) ?_
      clear hKc Kc
      refine wpAnyY_done (by kernel_rfl) ?_ _
      have HF : Hid (((((v3.setCell ⟨g, k * 4, none⟩ (.int .i64 ra.1)).setCell ⟨g, k * 4 + 1, none⟩ (.int .i64 rb.1)).setCell ⟨g, k * 4 + 2, none⟩ (.int .i64 rc.1)).setCell ⟨g, k * 4 + 3, none⟩ (.int .i64 re.1)).ownsRow g 40 4 (.slice (some ⟨g, 0, none⟩) n n) n (qdVals ((qsR s.data.toList (k + 1) st).1 ++ List.replicate (n - (k + 1)) (0, 0, 0, 0))) ∧ Rd ((((v3.setCell ⟨g, k * 4, none⟩ (.int .i64 ra.1)).setCell ⟨g, k * 4 + 1, none⟩ (.int .i64 rb.1)).setCell ⟨g, k * 4 + 2, none⟩ (.int .i64 rc.1)).setCell ⟨g, k * 4 + 3, none⟩ (.int .i64 re.1)) b s (qsR s.data.toList (k + 1) st).2 ∧ w.grownBy ((((v3.setCell ⟨g, k * 4, none⟩ (.int .i64 ra.1)).setCell ⟨g, k * 4 + 1, none⟩ (.int .i64 rb.1)).setCell ⟨g, k * 4 + 2, none⟩ (.int .i64 rc.1)).setCell ⟨g, k * 4 + 3, none⟩ (.int .i64 re.1)) (some b)) := by
        obtain ⟨p1, p2, p3⟩ := HS4.out
        have hne : b ≠ g := rd_ne p2 p1 (by decide)
        rw [HNN.out, HM.out]
        refine ⟨?_, ?_, ?_⟩
        · have := owned_set (owned_set (owned_set (owned_set p1 (k * 4) (.int .i64 ra.1)) (k * 4 + 1) (.int .i64 rb.1)) (k * 4 + 2) (.int .i64 rc.1)) (k * 4 + 3) (.int .i64 re.1)
          rw [row4_set _ k (0, 0, 0, 0) (ra.1, rb.1, rc.1, re.1) (by rw [List.getElem?_append_right (by omega), hlen, Nat.sub_self]; rfl)] at this
          have e : (l ++ List.replicate (m + 1) ((0, 0, 0, 0) : Qd)).set k (ra.1, rb.1, rc.1, re.1) = l ++ [(ra.1, rb.1, rc.1, re.1)] ++ List.replicate m (0, 0, 0, 0) := by
            rw [← hlen]; exact set_mid _ _ _ _
          rw [e] at this
          exact this
        · have hx : some b ≠ some g := fun e => hne (by cases e; rfl)
          exact (((p2.other (grown_set _ g _ _) hx).other (grown_set _ g _ _) hx).other (grown_set _ g _ _) hx).other (grown_set _ g _ _) hx
        · have hg' : w.heap.size ≤ g := by rw [HG.out]; exact Nat.le_refl _
          exact grown_new (grown_new (grown_new (grown_new p3 hg' _ _) hg' _ _) hg' _ _) hg' _ _
      clear HS4 HNN
      go_wp2
      go_roundw
      case rel => exact ⟨k + 1, by omega, by go_num, HF.out.1, HF.out.2.1, HF.out.2.2⟩
      case measure => simp [intOf]; omega
    · have hkn : k = n := by omega
      subst hkn
      have HS : Hid (wr.ownsRow w.heap.size 40 4 (.slice (some ⟨g, 0, none⟩) k k) k (qdVals (qsR s.data.toList k st).1) ∧ Rd wr b s (qsR s.data.toList k st).2 ∧ w.grownBy wr (some b)) := by
        rw [Nat.sub_self, List.replicate_zero, List.append_nil] at hown
        exact ⟨by rw [HG.out]; exact hown, hrd, hgr⟩
      clear hown hrd hgr
      go_wp2
      go_ret
      exact ⟨g, rfl, HS.out.1, HS.out.2.1, HS.out.2.2⟩

end Go.Proofs.YtignpgoicoojiaaDoor
