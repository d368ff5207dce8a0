/-
  The document's best end.. The law's own: lent 11, kept 14.. The law's own alike 20: both tables tell the same..
-/
import Derived.Test.YtjpeoejielamiaaKw
import Derived.Test.YtjpeoejielamiaaDqK
import Derived.Test.YtjpeoejielamiaaKe
namespace Go.Proofs.Ytjpeoejielamiaa
open Go.RowKit

theorem risL_cut {pl : Nat → Bool} {P n : Nat} (hp : ∀ k, pl k = true → k < P) (hP : P ≤ n) : risL pl n = risL pl P := by
  induction n with
  | zero => obtain rfl : P = 0 := by omega
            rfl
  | succ n ih =>
    rcases Nat.lt_or_ge n P with h | h
    · obtain rfl : P = n + 1 := by omega
      rfl
    · have hf : pl n = false := by
        cases hh : pl n with
        | false => rfl
        | true => exact absurd (hp n hh) (by omega)
      rw [risL_succ, hf, ih h]
      simp
theorem ends_row {w0 w : World} {p : Dp} {c : Cd} {s : Ls} {sx sy se : Sl} {x y : List Int} {M : Ms} {st : Int} (h : Dt w0 w p c s sx sy x y se M st) (hp : ∀ k, M.ends.planes k = true → k < c.planes.toNat) (hP : c.planes.toNat ≤ 10) (hf : M.ends.found = false → ∀ k, M.ends.planes k = false) :
    (∀ k, k < se.n → ∃ eb, se.a = some ⟨eb, 0, none⟩ ∧ w.cell? ⟨eb, k, none⟩ = some (.bool (M.ends.planes k)) ∧ eb < w.heap.size) ∧ risL M.ends.planes se.n = risB M.ends ∧ se.n ≤ 10 := by
  have e : risB M.ends = risL M.ends.planes 10 := rfl
  rcases h.ends with ⟨h1, h2⟩ | ⟨h1, eb, h2, h3, h4⟩
  · subst h2
    refine ⟨fun k hk => absurd hk (by simp), ?_, by simp⟩
    rw [e]
    exact (risL_cut (P := 0) (fun k hk => by rw [hf h1 k] at hk; cases hk) (by omega)).symm
  · subst h2
    refine ⟨fun k hk => ⟨eb, rfl, cell_block h4 k _ (bsC_get _ _ hk), lt_block h4⟩, ?_, hP⟩
    rw [e]
    exact (risL_cut hp hP).symm
set_option maxRecDepth 10000 in
set_option maxHeartbeats 4000000 in
theorem dbest_calls {w0 w : World} {p : Dp} {c : Cd} {s : Ls} {sx sy se : Sl} {x y : List Int} {M : Ms} {st : Int} (h : Dt w0 w p c s sx sy x y se M st) (hp : ∀ k, M.ends.planes k = true → k < c.planes.toNat) (hP : c.planes.toNat ≤ 10) (hf : M.ends.found = false → ∀ k, M.ends.planes k = false) :
    Calls Try.prog 34 #[.pointer (some ⟨p.b, 0, none⟩)] w (BestPost M.ends w) := by
  obtain ⟨hE, hr, hn10⟩ := ends_row h hp hP hf
  obtain ⟨i1, hi, hz0, hz1, hz2⟩ := info_parts info3
  obtain ⟨sa, n, sc⟩ := se
  simp only at hE hr hn10
  obtain ⟨e, he⟩ : ∃ e, M.ends = e := ⟨_, rfl⟩
  obtain ⟨pl, hpl⟩ : ∃ pl, e.planes = pl := ⟨_, rfl⟩
  have HE : Hid (∀ k, k < n → ∃ eb, sa = some ⟨eb, 0, none⟩ ∧ w.cell? ⟨eb, k, none⟩ = some (.bool (pl k)) ∧ eb < w.heap.size) := by rw [he, hpl] at hE; exact hE
  have HRr : Hid (risL pl n = risB e) := by rw [he, hpl] at hr; exact hr
  have HD : Hid (Dt w0 w p c s sx sy x y ⟨sa, n, sc⟩ { M with ends := e } st) := by rw [← he]; exact h
  rw [he]
  clear h hp hP hf hE hr he hpl
  go_enter Try.func34, Try.ntmps34
  go_wp2
  go_loopg [7, 8] n (fun g v iv wr => ∃ j : Nat, j + g = n ∧ iv = .int .i64 j ∧ Hid (wr.ownsRow w.heap.size 3 1 v (risL pl j).length (intVals (risL pl j)) ∧ Below w.heap.size w wr))
  case atStart => exact ⟨0, by omega, rfl, ⟨own_nil1 _ _, Below.refl _ _⟩⟩
  case round =>
    obtain ⟨j, hjn, rfl, HO⟩ := hrel
    have hlen := risL_len pl j
    obtain ⟨ak, cak, hv⟩ := owned_shape HO.out.1
    subst hv
    have c17 := (HD.out.next HO.out.2).cell 17 (v := .slice sa n sc) rfl
    have HSc : Hid (risL pl (j + 1) = risL pl j ++ (if pl j then [(j : Int)] else [])) := risL_succ pl j
    have hws := HO.out.2.size
    by_cases hlt : j < n
    rotate_left
    · have hd : decide ((j : Int) < (n : Int)) = false := decide_eq_false (by omega)
      obtain rfl : j = n := by omega
      rw [HRr.out] at HO ⊢
      obtain ⟨m, hm⟩ : ∃ m, (risB e).length = m := ⟨_, rfl⟩
      have HN : Hid ((risB e).length = m) := hm
      rw [hm] at HO ⊢
      clear hm HRr HSc hlen
      go_upto_region 7 with (fail)
      have HS : Hid ((fun W : World => W.cell? ⟨p.b, 14, none⟩ = some (.int .i64 e.score) ∧ W.cell? ⟨p.b, 15, none⟩ = some (.int .i64 e.i) ∧ W.cell? ⟨p.b, 16, none⟩ = some (.int .i64 e.j) ∧ W.cell? ⟨p.b, 13, none⟩ = some (.bool e.found)) wr.drew) := ⟨(HD.out.next HO.out.2).drew.cell 14 rfl, (HD.out.next HO.out.2).drew.cell 15 rfl, (HD.out.next HO.out.2).drew.cell 16 rfl, (HD.out.next HO.out.2).drew.cell 13 rfl⟩
      refine wp_region_Y (fun j => [].contains j) (fun W : World => W.cell? ⟨p.b, 14, none⟩ = some (.int .i64 e.score) ∧ W.cell? ⟨p.b, 15, none⟩ = some (.int .i64 e.i) ∧ W.cell? ⟨p.b, 16, none⟩ = some (.int .i64 e.j) ∧ W.cell? ⟨p.b, 13, none⟩ = some (.bool e.found)) (by kernel_rfl) ?_
      refine wpAnyY_pure (i := 0) 29 (v := .pointer (some ⟨p.b, 0, none⟩)) rfl rfl (by kernel_rfl) (by kernel_rfl) (by kernel_rfl) (fun _ _ _ h => h) (Or.inl ⟨by rfl, by (intro W _; go_simp)⟩) ?_
      simp only [Act.put, List.setIfInBounds_toArray, List.set_cons_succ, List.set_cons_zero]
      refine wpAnyY_pure (i := 1) 30 (v := .pointer (some ⟨p.b, 0, none⟩)) rfl rfl (by kernel_rfl) (by kernel_rfl) (by kernel_rfl) (fun _ _ _ h => h) (Or.inl ⟨by rfl, by (intro W _; go_simp)⟩) ?_
      simp only [Act.put, List.setIfInBounds_toArray, List.set_cons_succ, List.set_cons_zero]
      refine wpAnyY_pure (i := 2) 31 (v := .pointer (some ⟨p.b, 14, none⟩)) rfl rfl (by kernel_rfl) (by kernel_rfl) (by kernel_rfl) (fun _ _ _ h => h) (Or.inl ⟨by rfl, by (intro W _; go_simp)⟩) ?_
      simp only [Act.put, List.setIfInBounds_toArray, List.set_cons_succ, List.set_cons_zero]
      refine wpAnyY_takeD (i := 3) 32 (v := .int .i64 e.score) rfl rfl (by kernel_rfl) (by kernel_rfl) (late_of (by kernel_rfl)) (by kernel_rfl) (by kernel_rfl) (fun _ _ _ h => h) HS.out (Or.inl ⟨by rfl, by (intro W hW; obtain ⟨e0, e1, e2, e3⟩ := hW; go_simp)⟩) ?_
      simp only [Act.put, List.setIfInBounds_toArray, List.set_cons_succ, List.set_cons_zero]
      refine wpAnyY_pure (i := 4) 33 (v := .pointer (some ⟨p.b, 0, none⟩)) rfl rfl (by kernel_rfl) (by kernel_rfl) (by kernel_rfl) (fun _ _ _ h => h) (Or.inl ⟨by rfl, by (intro W _; go_simp)⟩) ?_
      simp only [Act.put, List.setIfInBounds_toArray, List.set_cons_succ, List.set_cons_zero]
      refine wpAnyY_pure (i := 5) 34 (v := .pointer (some ⟨p.b, 0, none⟩)) rfl rfl (by kernel_rfl) (by kernel_rfl) (by kernel_rfl) (fun _ _ _ h => h) (Or.inl ⟨by rfl, by (intro W _; go_simp)⟩) ?_
      simp only [Act.put, List.setIfInBounds_toArray, List.set_cons_succ, List.set_cons_zero]
      refine wpAnyY_pure (i := 6) 35 (v := .pointer (some ⟨p.b, 15, none⟩)) rfl rfl (by kernel_rfl) (by kernel_rfl) (by kernel_rfl) (fun _ _ _ h => h) (Or.inl ⟨by rfl, by (intro W _; go_simp)⟩) ?_
      simp only [Act.put, List.setIfInBounds_toArray, List.set_cons_succ, List.set_cons_zero]
      refine wpAnyY_takeD (i := 7) 36 (v := .int .i64 e.i) rfl rfl (by kernel_rfl) (by kernel_rfl) (late_of (by kernel_rfl)) (by kernel_rfl) (by kernel_rfl) (fun _ _ _ h => h) HS.out (Or.inl ⟨by rfl, by (intro W hW; obtain ⟨e0, e1, e2, e3⟩ := hW; go_simp)⟩) ?_
      simp only [Act.put, List.setIfInBounds_toArray, List.set_cons_succ, List.set_cons_zero]
      refine wpAnyY_pure (i := 8) 37 (v := .pointer (some ⟨p.b, 0, none⟩)) rfl rfl (by kernel_rfl) (by kernel_rfl) (by kernel_rfl) (fun _ _ _ h => h) (Or.inl ⟨by rfl, by (intro W _; go_simp)⟩) ?_
      simp only [Act.put, List.setIfInBounds_toArray, List.set_cons_succ, List.set_cons_zero]
      refine wpAnyY_pure (i := 9) 38 (v := .pointer (some ⟨p.b, 0, none⟩)) rfl rfl (by kernel_rfl) (by kernel_rfl) (by kernel_rfl) (fun _ _ _ h => h) (Or.inl ⟨by rfl, by (intro W _; go_simp)⟩) ?_
      simp only [Act.put, List.setIfInBounds_toArray, List.set_cons_succ, List.set_cons_zero]
      refine wpAnyY_pure (i := 10) 39 (v := .pointer (some ⟨p.b, 16, none⟩)) rfl rfl (by kernel_rfl) (by kernel_rfl) (by kernel_rfl) (fun _ _ _ h => h) (Or.inl ⟨by rfl, by (intro W _; go_simp)⟩) ?_
      simp only [Act.put, List.setIfInBounds_toArray, List.set_cons_succ, List.set_cons_zero]
      refine wpAnyY_takeD (i := 11) 40 (v := .int .i64 e.j) rfl rfl (by kernel_rfl) (by kernel_rfl) (late_of (by kernel_rfl)) (by kernel_rfl) (by kernel_rfl) (fun _ _ _ h => h) HS.out (Or.inl ⟨by rfl, by (intro W hW; obtain ⟨e0, e1, e2, e3⟩ := hW; go_simp)⟩) ?_
      simp only [Act.put, List.setIfInBounds_toArray, List.set_cons_succ, List.set_cons_zero]
      refine wpAnyY_pure (i := 12) 41 (v := .slice ak m cak) rfl rfl (by kernel_rfl) (by kernel_rfl) (by kernel_rfl) (fun _ _ _ h => h) (Or.inl ⟨by rfl, by (intro W _; go_simp)⟩) ?_
      simp only [Act.put, List.setIfInBounds_toArray, List.set_cons_succ, List.set_cons_zero]
      refine wpAnyY_pure (i := 13) 42 (v := .pointer (some ⟨p.b, 0, none⟩)) rfl rfl (by kernel_rfl) (by kernel_rfl) (by kernel_rfl) (fun _ _ _ h => h) (Or.inl ⟨by rfl, by (intro W _; go_simp)⟩) ?_
      simp only [Act.put, List.setIfInBounds_toArray, List.set_cons_succ, List.set_cons_zero]
      refine wpAnyY_pure (i := 14) 43 (v := .pointer (some ⟨p.b, 0, none⟩)) rfl rfl (by kernel_rfl) (by kernel_rfl) (by kernel_rfl) (fun _ _ _ h => h) (Or.inl ⟨by rfl, by (intro W _; go_simp)⟩) ?_
      simp only [Act.put, List.setIfInBounds_toArray, List.set_cons_succ, List.set_cons_zero]
      refine wpAnyY_pure (i := 15) 44 (v := .pointer (some ⟨p.b, 13, none⟩)) rfl rfl (by kernel_rfl) (by kernel_rfl) (by kernel_rfl) (fun _ _ _ h => h) (Or.inl ⟨by rfl, by (intro W _; go_simp)⟩) ?_
      simp only [Act.put, List.setIfInBounds_toArray, List.set_cons_succ, List.set_cons_zero]
      refine wpAnyY_takeD (i := 16) 45 (v := .bool e.found) rfl rfl (by kernel_rfl) (by kernel_rfl) (late_of (by kernel_rfl)) (by kernel_rfl) (by kernel_rfl) (fun _ _ _ h => h) HS.out (Or.inl ⟨by rfl, by (intro W hW; obtain ⟨e0, e1, e2, e3⟩ := hW; go_simp)⟩) ?_
      simp only [Act.put, List.setIfInBounds_toArray, List.set_cons_succ, List.set_cons_zero]
      refine wpAnyY_pure (i := 17) 2 (v := .int .i64 e.score) rfl rfl (by kernel_rfl) (by kernel_rfl) (by kernel_rfl) (fun _ _ _ h => h) (Or.inl ⟨by rfl, by (intro W _; go_simp)⟩) ?_
      simp only [Act.put, List.setIfInBounds_toArray, List.set_cons_succ, List.set_cons_zero]
      refine wpAnyY_pure (i := 18) 3 (v := .int .i64 e.i) rfl rfl (by kernel_rfl) (by kernel_rfl) (by kernel_rfl) (fun _ _ _ h => h) (Or.inl ⟨by rfl, by (intro W _; go_simp)⟩) ?_
      simp only [Act.put, List.setIfInBounds_toArray, List.set_cons_succ, List.set_cons_zero]
      refine wpAnyY_pure (i := 19) 4 (v := .int .i64 e.j) rfl rfl (by kernel_rfl) (by kernel_rfl) (by kernel_rfl) (fun _ _ _ h => h) (Or.inl ⟨by rfl, by (intro W _; go_simp)⟩) ?_
      simp only [Act.put, List.setIfInBounds_toArray, List.set_cons_succ, List.set_cons_zero]
      refine wpAnyY_pure (i := 20) 5 (v := .slice ak m cak) rfl rfl (by kernel_rfl) (by kernel_rfl) (by kernel_rfl) (fun _ _ _ h => h) (Or.inl ⟨by rfl, by (intro W _; go_simp)⟩) ?_
      simp only [Act.put, List.setIfInBounds_toArray, List.set_cons_succ, List.set_cons_zero]
      refine wpAnyY_pure (i := 21) 6 (v := .bool e.found) rfl rfl (by kernel_rfl) (by kernel_rfl) (by kernel_rfl) (fun _ _ _ h => h) (Or.inl ⟨by rfl, by (intro W _; go_simp)⟩) ?_
      simp only [Act.put, List.setIfInBounds_toArray, List.set_cons_succ, List.set_cons_zero]
      refine wpAnyY_done (by kernel_rfl) ?_ _
      go_wp2
      refine bodyPost_ret (v := .tuple #[.int .i64 e.score, .int .i64 e.i, .int .i64 e.j, .slice ak m cak, .bool e.found]) (by simp [results, go_sem]) rfl ?_
      refine ⟨ak, cak, by rw [HN.out], ?_⟩
      rw [HN.out]
      exact ⟨HO.out.1.drew, HO.out.2.drew⟩
    have hd : decide ((j : Int) < (n : Int)) = true := decide_eq_true (by omega)
    have hgk : 0 < gk := by omega
    obtain ⟨eb, hea, hec, heb⟩ := HE.out j hlt
    have hec := cell_bl HO.out.2 hec
    rw [hea] at c17
    obtain ⟨b, hb⟩ : ∃ b, pl j = b := ⟨_, rfl⟩
    rw [hb] at HSc hec
    generalize hll : risL pl j = l at *
    clear hb hll
    generalize hn : l.length = m at *
    have HN : Hid (l.length = m) := hn
    clear hn hea heb
    cases b
    · go_wp2
      go_roundg (gk - 1)
      case rel => exact ⟨j + 1, by omega, by go_num, by rw [HSc.out]; simp only [Bool.false_eq_true, if_false, List.append_nil]; rw [HN.out]; exact HO⟩
      case measure => omega
    · go_wp2_with (at_builtin; go_loud (refine wpList_append_own _ rfl _ _ 22 rfl w.heap.size 3 i1 (.int .i64 0) 1 8 Try.underlying22 hi hz0 hz1 hz2 rfl (by decide) (.slice ak m cak) _ _ rfl (HO.out.1.alloc _) ⟨_, 0, none⟩ 1 1 [.int .i64 j] rfl rfl ?c1 (one_int j) ?c3 ?c4 ?c5 ?_))
      case c3 => unfold maxLen; omega
      case c4 => omega
      case c5 => first | omega | (simp; omega)
      intro v' w3 hown' hgrow _
      have H3 : Hid (w3.ownsRow w.heap.size 3 1 v' (l ++ [(j : Int)]).length (intVals (l ++ [(j : Int)])) ∧ Below w.heap.size w w3) := by
        refine ⟨?_, (HO.out.2.alloc HO.out.2.size _).grown hgrow (by have := HO.out.2.size; simp; omega) (own_blk HO.out.1)⟩
        rw [intVals, List.map_append, List.length_append, HN.out]; exact hown'
      clear hown' hgrow HO c17 hec
      go_wp2
      go_roundg (gk - 1)
      case rel => exact ⟨j + 1, by omega, by go_num, by rw [HSc.out]; exact H3⟩
      case measure => omega

end Go.Proofs.Ytjpeoejielamiaa

namespace Go.Proofs.Ytjpeoejielamiaa
open Go.RowKit

def mkL : List Value := [.int .i64 (-77), .int .i64 0]
theorem mk_set (l : List Int) : (intVals l ++ List.replicate 2 (Value.int .i64 0)).toArray.setIfInBounds l.length (.int .i64 (-77)) = (intVals l ++ mkL).toArray := by
  rw [List.setIfInBounds_toArray, List.set_append, if_neg (by rw [intVals_length]; omega), intVals_length, Nat.sub_self]
  rfl
set_option maxRecDepth 10000 in
set_option maxHeartbeats 2000000 in
theorem lent_calls (l : List Int) (ao : Option Addr) (n cap : Nat) (w : World) (h : IntsAt w ao n l) (hn : n ≤ 2147483647) (hao : ao = none → n = 0 ∧ cap = 0) :
    Calls Try.prog 11 #[.slice ao n cap] w fun e w' => ∃ g, e = .returned (.slice (some ⟨g, 0, none⟩) (n + 2) (n + 2)) ∧ w.heap.size ≤ g ∧ w'.heap[g]? = some (.cells (intVals l ++ mkL).toArray 3 (0, 0)) ∧ Below w.heap.size w w' := by
  have hl := h.length
  have HI : Hid (IntsAt w ao n l) := h
  obtain ⟨i1, hi1, hz1a, hz1b, hz1c⟩ := info_parts info3
  have hw : IntKind.i64.wrap ((n : Int) + 2) = ((n + 2 : Nat) : Int) := by rw [← wrap_is]; unfold wrap64; omega
  obtain ⟨m, hm⟩ : ∃ m, n + 2 = m := ⟨_, rfl⟩
  rw [hm] at hw
  have HMm : Hid (n + 2 = m ∧ l.length = n) := ⟨hm, hl⟩
  have hmb : m ≤ 2147483649 := by omega
  rw [hm]
  clear h hl
  go_enter Try.func11, Try.ntmps11
  go_wp2_with (at_make; refine wpList_make_full _ rfl _ _ 22 rfl w.heap.size 3 i1 (.int .i64 0) 1 Try.underlying22 hi1 hz1a hz1b .i64 .i64 _ _ m rfl rfl (by omega) (by omega) (by rw [hz1c]; omega) (by unfold maxLen; omega) (Nat.le_refl _) ?_)
  intro wa hown hgrow
  have HM : Hid (Laid w 3 (List.replicate m (.int .i64 0)) wa) := by
    rw [made_one] at hown
    have hm := made_block (by simpa using hown) hgrow
    exact ⟨hm.1, hm.2⟩
  clear hown hgrow hi1 hz1a hz1b hz1c i1 hw
  obtain ⟨g, hg⟩ : ∃ g, w.heap.size = g := ⟨_, rfl⟩
  have HG : Hid (w.heap.size = g) := hg
  have HRw : Hid (wa.heap[g]? = some (.cells (List.replicate m (Value.int .i64 0)).toArray 3 (0, 0))) := by show _ = _; rw [← hg]; exact HM.out.row
  rw [hg]
  clear hg
  go_wp2_with (refine wpList_copyG Try.underlying22 size3 rfl (.tmp 8) (.tmp 9) rfl g m m ao n cap rfl rfl hao _ HRw.out (intVals l) ?c0 ((HI.out.below HM.out.low).source) ?c1 (ints_oneC _) g wa (Below.refl _ _) (Nat.le_refl _) ?_)
  case c0 => rw [intVals_length, HMm.out.2, show Nat.min n m = n from Nat.min_eq_left (by omega)]; omega
  case c1 => rw [intVals_length, HMm.out.2]; simp; omega
  intro wB hrow hlow vcopy
  have HRk : Hid (wB.heap[g]? = some (.cells (intVals l ++ List.replicate 2 (Value.int .i64 0)).toArray 3 (0, 0))) := by
    show _ = _
    rw [hrow, intVals_length, HMm.out.2, ← HMm.out.1]
    simp
  have HB : Hid (Below w.heap.size w wB) := HM.out.low.trans (by have := hlow; rw [← HG.out] at this; exact this)
  clear hrow hlow HRw HM
  have y0 := cell_block HRk.out n (v := .int .i64 0) (by rw [List.getElem?_toArray, List.getElem?_append_right (by rw [intVals_length, HMm.out.2]; omega), intVals_length, HMm.out.2, Nat.sub_self]; rfl)
  have f0 := frozen_of_row wB g n _ _ HRk.out
  have HN : Hid (Below w.heap.size w (wB.setCell ⟨g, n, none⟩ (.int .i64 (-77))) ∧ (wB.setCell ⟨g, n, none⟩ (.int .i64 (-77))).heap[g]? = some (.cells (intVals l ++ mkL).toArray 3 (0, 0))) := by
    refine ⟨HB.out.setCell (p := ⟨g, n, none⟩) (by rw [HG.out]; exact Nat.le_refl _) _, ?_⟩
    rw [heap_setCell_same _ _ _ _ _ _ HRk.out, ← mk_set, HMm.out.2]
  have hnm : n < m := by omega
  clear HB HRk hm hmb hao hn
  go_wp2
  go_ret
  exact ⟨g, rfl, Nat.le_of_eq HG.out, HN.out.2, HN.out.1⟩
theorem mk_at {w : World} {g : Nat} {l : List Int} (h : w.heap[g]? = some (.cells (intVals l ++ mkL).toArray 3 (0, 0))) : (∀ i, i < l.length → w.cell? ⟨g, i, none⟩ = some (.int .i64 (l.getD i 0))) ∧ w.cell? ⟨g, l.length, none⟩ = some (.int .i64 (-77)) ∧ w.cell? ⟨g, l.length + 1, none⟩ = some (.int .i64 0) := by
  refine ⟨fun i hi => ?_, ?_, ?_⟩
  · refine cell_block h i _ ?_
    rw [List.getElem?_toArray, List.getElem?_append_left (by rw [intVals_length]; exact hi), intVals, List.getElem?_map, getD_get hi]
    rfl
  · refine cell_block h _ _ ?_
    rw [List.getElem?_toArray, List.getElem?_append_right (by rw [intVals_length]; omega), intVals_length, Nat.sub_self]
    rfl
  · refine cell_block h _ _ ?_
    rw [List.getElem?_toArray, List.getElem?_append_right (by rw [intVals_length]; omega), intVals_length, show l.length + 1 - l.length = 1 by omega]
    rfl
set_option maxRecDepth 10000 in
set_option maxHeartbeats 2000000 in
theorem kept_calls (l : List Int) (g m : Nat) (ao : Option Addr) (n cap : Nat) (w : World) (hm : n + 2 = m) (hr : w.heap[g]? = some (.cells (intVals l ++ mkL).toArray 3 (0, 0))) (h : IntsAt w ao n l) (hn : n ≤ 2147483647) :
    Calls Try.prog 14 #[.slice (some ⟨g, 0, none⟩) m m, .slice ao n cap] w fun e w' => e = .returned (.bool true) ∧ Below w.heap.size w w' := by
  have hl := h.length
  have HI : Hid (IntsAt w ao n l) := h
  have HR : Hid (w.heap[g]? = some (.cells (intVals l ++ mkL).toArray 3 (0, 0))) := hr
  have HL : Hid (l.length = n) := hl
  have hw : IntKind.i64.wrap ((n : Int) + 1) = ((n + 1 : Nat) : Int) := by rw [← wrap_is]; unfold wrap64; omega
  clear h hr hl
  go_enter Try.func14, Try.ntmps14
  go_wp2
  go_loopg [5] n (fun q iv wr => ∃ i : Nat, i + q = n ∧ iv = .int .i64 i ∧ Hid (Below w.heap.size w wr))
  case atStart => exact ⟨0, by omega, rfl, Below.refl _ _⟩
  case round =>
    obtain ⟨i, hin, rfl, HB⟩ := hrel
    have HRr : Hid (wr.heap[g]? = some (.cells (intVals l ++ mkL).toArray 3 (0, 0))) := by show _ = _; rw [HB.out.block _ (lt_block HR.out)]; exact HR.out
    by_cases hi : i < n
    rotate_left
    · have hd : decide ((i : Int) < (n : Int)) = false := decide_eq_false (by omega)
      have y1 := (mk_at HRr.out).2.1
      have y2 := (mk_at HRr.out).2.2
      rw [HL.out] at y1 y2
      have h1 : n < m := by omega
      have h2 : n + 1 < m := by omega
      obtain ⟨n1, hn1⟩ : ∃ n1, n + 1 = n1 := ⟨_, rfl⟩
      rw [hn1] at hw y2 h2
      clear hn1 hm
      go_wp2
      go_ret
      exact ⟨rfl, HB.out⟩
    have hd : decide ((i : Int) < (n : Int)) = true := decide_eq_true (by omega)
    have hgk : 0 < gk := by omega
    have him : i < m := by omega
    have y0 := (mk_at HRr.out).1 i (by rw [HL.out]; exact hi)
    obtain ⟨xb, xo, hxa, hxc⟩ := HI.out.cells (by omega)
    have x0 := cell_bl HB.out (hxc i hi)
    subst hxa
    generalize l.getD i 0 = z at *
    have hz : (z != z) = false := by simp
    clear hxc HRr
    go_upto_region 4 with (fail)
    go_quiet (fail)
    have HBn : Hid (Below w.heap.size w (wr.drewN nq)) := HB.out.trans ((below_drewN (Below.refl _ _) nq).mono HB.out.size)
    clear HB y0 x0
    generalize wr.drewN nq = wq at *
    go_wp2
    go_roundg (gk - 1)
    case rel => exact ⟨i + 1, by omega, by go_num, HBn⟩
    case measure => omega

end Go.Proofs.Ytjpeoejielamiaa

namespace Go.Proofs.Ytjpeoejielamiaa
open Go.RowKit

theorem at_ok {P X Y : Nat} {f : Nat → Ct} (h : ∀ k, okN (f k)) (p i j : Int) : okN (atB P X Y f p i j) := by
  unfold atB
  split
  · exact h _
  · exact ok_ct0
set_option maxRecDepth 10000 in
set_option maxHeartbeats 4000000 in
theorem alike_calls {w0 w : World} {p : Dp} {c : Cd} {s : Ls} {sx sy se sa : Sl} {x y : List Int} {M : Ms} {st st1 : Int} {g gs : Nat} (hT : Tb w g gs c.planes.toNat x.length y.length sa M.slots M.ends st1) (h : Dt w0 w p c s sx sy x y se M st) (hn : Nrm c x.length y.length M) (hg : Gk c) (hxy : (x.length + 1) * (y.length + 1) ≤ 1048576) (i j : Int) (hi : -100000 ≤ i ∧ i ≤ 100000) (hj : -100000 ≤ j ∧ j ≤ 100000) :
    Calls Try.prog 20 #[.pointer (some ⟨g, 0, none⟩), .pointer (some ⟨p.b, 0, none⟩), .int .i64 i, .int .i64 j] w fun e w' => e = .returned (.bool true) ∧ Below w.heap.size w w' := by
  obtain ⟨P, hP⟩ : ∃ P : Nat, c.planes = P := ⟨c.planes.toNat, by have := hg.rt.planes; omega⟩
  have hPt : c.planes.toNat = P := by omega
  have hP16 : P ≤ 16 := by have := hg.rt.planes; omega
  have HT : Hid (∀ W, Below w.heap.size w W → ∀ q : Int, Calls Try.prog 22 #[.pointer (some ⟨g, 0, none⟩), .int .i64 q, .int .i64 i, .int .i64 j] W fun e w' => e = .returned (.tuple #[.int .i64 (atB P x.length y.length M.slots q i j).num, .bool (atB P x.length y.length M.slots q i j).has]) ∧ Below W.heap.size W w') := fun W hW q => by
    have := value_calls (hT.next hW) q i j
    rw [hPt] at this
    exact this
  have HF : Hid (∀ W, Below w.heap.size w W → ∀ q : Int, Calls Try.prog 23 #[.pointer (some ⟨g, 0, none⟩), .int .i64 q, .int .i64 i, .int .i64 j] W fun e w' => e = .returned (.int .i64 (atB P x.length y.length M.slots q i j).mask) ∧ Below W.heap.size W w') := fun W hW q => by
    have hk := at_ok (P := c.planes.toNat) (X := x.length) (Y := y.length) hn.ok.slots q i j
    have := mask_calls (hT.next hW) q i j (by unfold okN at hk; omega)
    rw [hPt] at this
    exact this
  have HA : Hid (∀ W, Below w.heap.size w W → ∀ q : Int, Calls Try.prog 35 #[.pointer (some ⟨p.b, 0, none⟩), .int .i64 q, .int .i64 i, .int .i64 j] W fun e w' => e = .returned (.agg (dcA (atB P x.length y.length M.slots q i j))) ∧ Below W.heap.size W w') := fun W hW q => by
    have := dat_calls (h.next hW) hn hxy (by omega) q i j hi hj
    rw [hPt] at this
    exact this
  have HD : Hid (∀ W, Below w.heap.size w W → W.cell? ⟨p.b, 1, none⟩ = some (.int .i64 c.planes)) := fun W hW => (h.next hW).cell 1 rfl
  obtain ⟨A, hA⟩ : ∃ A : Int → Ct, (fun q => atB P x.length y.length M.slots q i j) = A := ⟨_, rfl⟩
  have HT : Hid (∀ W, Below w.heap.size w W → ∀ q : Int, Calls Try.prog 22 #[.pointer (some ⟨g, 0, none⟩), .int .i64 q, .int .i64 i, .int .i64 j] W fun e w' => e = .returned (.tuple #[.int .i64 (A q).num, .bool (A q).has]) ∧ Below W.heap.size W w') := by rw [← hA]; exact HT
  have HF : Hid (∀ W, Below w.heap.size w W → ∀ q : Int, Calls Try.prog 23 #[.pointer (some ⟨g, 0, none⟩), .int .i64 q, .int .i64 i, .int .i64 j] W fun e w' => e = .returned (.int .i64 (A q).mask) ∧ Below W.heap.size W w') := by rw [← hA]; exact HF
  have HA : Hid (∀ W, Below w.heap.size w W → ∀ q : Int, Calls Try.prog 35 #[.pointer (some ⟨p.b, 0, none⟩), .int .i64 q, .int .i64 i, .int .i64 j] W fun e w' => e = .returned (.agg #[.bool (A q).has, .int .i64 (A q).num, .int .i64 (A q).mask]) ∧ Below W.heap.size W w') := by rw [← hA]; exact HA
  clear hA hT h hn hg hxy hi hj hPt
  go_enter Try.func20, Try.ntmps20
  go_wp2
  go_loopg [9, 10, 11, 12, 13] (P + 2) (fun q v9 _ _ _ _ wr => ∃ k : Nat, k + q = P + 2 ∧ v9 = .int .i64 ((k : Int) - 1) ∧ Hid (Below w.heap.size w wr))
  case atStart => exact ⟨0, by omega, rfl, Below.refl _ _⟩
  case round =>
    obtain ⟨k, hkP, rfl, HB⟩ := hrel
    have c1 := HD.out _ HB.out
    obtain ⟨q, hq⟩ : ∃ q : Int, (k : Int) - 1 = q := ⟨_, rfl⟩
    rw [hq]
    by_cases hk : q ≤ c.planes
    rotate_left
    · have hd : decide (q ≤ c.planes) = false := by simpa using hk
      clear hq hP hk
      go_wp2
      go_ret
      exact ⟨rfl, HB.out⟩
    have hd : decide (q ≤ c.planes) = true := by simpa using hk
    have hgk : 0 < gk := by omega
    go_wp2_with fail
    refine (HT.out _ HB.out q).mono ?_
    rintro e w1 ⟨rfl, hb⟩
    have HB1 : Hid (Below w.heap.size w w1) := HB.out.trans (hb.mono HB.out.size)
    clear hb HB c1
    go_wp2_with fail
    refine (HF.out _ HB1.out q).mono ?_
    rintro e w2 ⟨rfl, hb⟩
    have HB2 : Hid (Below w.heap.size w w2) := HB1.out.trans (hb.mono HB1.out.size)
    clear hb HB1
    go_wp2_with fail
    refine (HA.out _ HB2.out q).mono ?_
    rintro e w3 ⟨rfl, hb⟩
    have HB3 : Hid (Below w.heap.size w w3) := HB2.out.trans (hb.mono HB2.out.size)
    clear hb HB2
    generalize A q = a at *
    obtain ⟨ah, an, am⟩ := a
    have e1 : (ah != ah) = false := by simp
    have e2 : (an != an) = false := by simp
    have e3 : (am != am) = false := by simp
    go_wp2
    go_roundg (gk - 1)
    case rel => exact ⟨k + 1, by omega, by rw [show ((k + 1 : Nat) : Int) - 1 = q + 1 by omega], HB3.out.alloc HB3.out.size _⟩
    case measure => omega

end Go.Proofs.Ytjpeoejielamiaa

