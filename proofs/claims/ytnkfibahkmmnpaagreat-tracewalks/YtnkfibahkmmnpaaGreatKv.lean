/-
  The document's best end.. The walk of the document's next: of a step the planes whence its ways come. What the law needs besides: no end found, no planes; a world cut at a height.
-/
import Derived.Test.YtnkfibahkmmnpaaGreatMeI
import Derived.Test.YtnkfibahkmmnpaaGreatKp
import Derived.Test.YtnkfibahkmmnpaaGreatDqK
namespace Go.Proofs.YtnkfibahkmmnpaaGreat
open Go.RowKit

theorem risL_cut {pl : Nat → Bool} {P n : Nat} (hp : ∀ k, pl k = true → k < P) (hP : P ≤ n) : risL pl n = risL pl P := by
  induction n with
  | zero => obtain rfl : P = 0 := by omega
            rfl
  | succ n ih =>
    rcases Nat.lt_or_ge n P with h | h
    · obtain rfl : P = n + 1 := by omega
      rfl
    · have hf : pl n = false := by
        cases hh : pl n with
        | false => rfl
        | true => exact absurd (hp n hh) (by omega)
      rw [risL_succ, hf, ih h]
      simp
theorem ends_row {w0 w : World} {p : Dp} {c : Cd} {s : Ls} {sx sy se : Sl} {x y : List Int} {M : Ms} {st : Int} (h : Dt w0 w p c s sx sy x y se M st) (hp : ∀ k, M.ends.planes k = true → k < c.planes.toNat) (hP : c.planes.toNat ≤ 10) (hf : M.ends.found = false → ∀ k, M.ends.planes k = false) :
    (∀ k, k < se.n → ∃ eb, se.a = some ⟨eb, 0, none⟩ ∧ w.cell? ⟨eb, k, none⟩ = some (.bool (M.ends.planes k)) ∧ eb < w.heap.size) ∧ risL M.ends.planes se.n = risB M.ends ∧ se.n ≤ 10 := by
  have e : risB M.ends = risL M.ends.planes 10 := rfl
  rcases h.ends with ⟨h1, h2⟩ | ⟨h1, eb, h2, h3, h4⟩
  · subst h2
    refine ⟨fun k hk => absurd hk (by simp), ?_, by simp⟩
    rw [e]
    exact (risL_cut (P := 0) (fun k hk => by rw [hf h1 k] at hk; cases hk) (by omega)).symm
  · subst h2
    refine ⟨fun k hk => ⟨eb, rfl, cell_block h4 k _ (bsC_get _ _ hk), lt_block h4⟩, ?_, hP⟩
    rw [e]
    exact (risL_cut hp hP).symm
set_option maxRecDepth 10000 in
set_option maxHeartbeats 4000000 in
theorem dbest_calls {w0 w : World} {p : Dp} {c : Cd} {s : Ls} {sx sy se : Sl} {x y : List Int} {M : Ms} {st : Int} (h : Dt w0 w p c s sx sy x y se M st) (hp : ∀ k, M.ends.planes k = true → k < c.planes.toNat) (hP : c.planes.toNat ≤ 10) (hf : M.ends.found = false → ∀ k, M.ends.planes k = false) :
    Calls Tryz.prog 23 #[.pointer (some ⟨p.b, 0, none⟩)] w (BestPost M.ends w) := by
  obtain ⟨hE, hr, hn10⟩ := ends_row h hp hP hf
  obtain ⟨i1, hi, hz0, hz1, hz2⟩ := info_parts info3
  obtain ⟨sa, n, sc⟩ := se
  simp only at hE hr hn10
  obtain ⟨e, he⟩ : ∃ e, M.ends = e := ⟨_, rfl⟩
  obtain ⟨pl, hpl⟩ : ∃ pl, e.planes = pl := ⟨_, rfl⟩
  have HE : Hid (∀ k, k < n → ∃ eb, sa = some ⟨eb, 0, none⟩ ∧ w.cell? ⟨eb, k, none⟩ = some (.bool (pl k)) ∧ eb < w.heap.size) := by rw [he, hpl] at hE; exact hE
  have HRr : Hid (risL pl n = risB e) := by rw [he, hpl] at hr; exact hr
  have HD : Hid (Dt w0 w p c s sx sy x y ⟨sa, n, sc⟩ { M with ends := e } st) := by rw [← he]; exact h
  rw [he]
  clear h hp hP hf hE hr he hpl
  go_enter Tryz.func23, Tryz.ntmps23
  go_wp2
  go_loopg [7, 8] n (fun g v iv wr => ∃ j : Nat, j + g = n ∧ iv = .int .i64 j ∧ Hid (wr.ownsRow w.heap.size 3 1 v (risL pl j).length (intVals (risL pl j)) ∧ Below w.heap.size w wr))
  case atStart => exact ⟨0, by omega, rfl, ⟨own_nil1 _ _, Below.refl _ _⟩⟩
  case round =>
    obtain ⟨j, hjn, rfl, HO⟩ := hrel
    have hlen := risL_len pl j
    obtain ⟨ak, cak, hv⟩ := owned_shape HO.out.1
    subst hv
    have c17 := (HD.out.next HO.out.2).cell 17 (v := .slice sa n sc) rfl
    have HSc : Hid (risL pl (j + 1) = risL pl j ++ (if pl j then [(j : Int)] else [])) := risL_succ pl j
    have hws := HO.out.2.size
    by_cases hlt : j < n
    rotate_left
    · have hd : decide ((j : Int) < (n : Int)) = false := decide_eq_false (by omega)
      obtain rfl : j = n := by omega
      rw [HRr.out] at HO ⊢
      obtain ⟨m, hm⟩ : ∃ m, (risB e).length = m := ⟨_, rfl⟩
      have HN : Hid ((risB e).length = m) := hm
      rw [hm] at HO ⊢
      clear hm HRr HSc hlen
      go_upto_region 7 with (fail)
      have HS : Hid ((fun W : World => W.cell? ⟨p.b, 14, none⟩ = some (.int .i64 e.score) ∧ W.cell? ⟨p.b, 15, none⟩ = some (.int .i64 e.i) ∧ W.cell? ⟨p.b, 16, none⟩ = some (.int .i64 e.j) ∧ W.cell? ⟨p.b, 13, none⟩ = some (.bool e.found)) wr.drew) := ⟨(HD.out.next HO.out.2).drew.cell 14 rfl, (HD.out.next HO.out.2).drew.cell 15 rfl, (HD.out.next HO.out.2).drew.cell 16 rfl, (HD.out.next HO.out.2).drew.cell 13 rfl⟩
      refine wp_region_Y (fun j => [].contains j) (fun W : World => W.cell? ⟨p.b, 14, none⟩ = some (.int .i64 e.score) ∧ W.cell? ⟨p.b, 15, none⟩ = some (.int .i64 e.i) ∧ W.cell? ⟨p.b, 16, none⟩ = some (.int .i64 e.j) ∧ W.cell? ⟨p.b, 13, none⟩ = some (.bool e.found)) (by kernel_rfl) ?_
      refine wpAnyY_pure (i := 0) 29 (v := .pointer (some ⟨p.b, 0, none⟩)) rfl rfl (by kernel_rfl) (by kernel_rfl) (by kernel_rfl) (fun _ _ _ h => h) (Or.inl ⟨by rfl, by (intro W _; go_simp)⟩) ?_
      simp only [Act.put, List.setIfInBounds_toArray, List.set_cons_succ, List.set_cons_zero]
      refine wpAnyY_pure (i := 1) 30 (v := .pointer (some ⟨p.b, 0, none⟩)) rfl rfl (by kernel_rfl) (by kernel_rfl) (by kernel_rfl) (fun _ _ _ h => h) (Or.inl ⟨by rfl, by (intro W _; go_simp)⟩) ?_
      simp only [Act.put, List.setIfInBounds_toArray, List.set_cons_succ, List.set_cons_zero]
      refine wpAnyY_pure (i := 2) 31 (v := .pointer (some ⟨p.b, 14, none⟩)) rfl rfl (by kernel_rfl) (by kernel_rfl) (by kernel_rfl) (fun _ _ _ h => h) (Or.inl ⟨by rfl, by (intro W _; go_simp)⟩) ?_
      simp only [Act.put, List.setIfInBounds_toArray, List.set_cons_succ, List.set_cons_zero]
      refine wpAnyY_takeD (i := 3) 32 (v := .int .i64 e.score) rfl rfl (by kernel_rfl) (by kernel_rfl) (late_of (by kernel_rfl)) (by kernel_rfl) (by kernel_rfl) (fun _ _ _ h => h) HS.out (Or.inl ⟨by rfl, by (intro W hW; obtain ⟨e0, e1, e2, e3⟩ := hW; go_simp)⟩) ?_
      simp only [Act.put, List.setIfInBounds_toArray, List.set_cons_succ, List.set_cons_zero]
      refine wpAnyY_pure (i := 4) 33 (v := .pointer (some ⟨p.b, 0, none⟩)) rfl rfl (by kernel_rfl) (by kernel_rfl) (by kernel_rfl) (fun _ _ _ h => h) (Or.inl ⟨by rfl, by (intro W _; go_simp)⟩) ?_
      simp only [Act.put, List.setIfInBounds_toArray, List.set_cons_succ, List.set_cons_zero]
      refine wpAnyY_pure (i := 5) 34 (v := .pointer (some ⟨p.b, 0, none⟩)) rfl rfl (by kernel_rfl) (by kernel_rfl) (by kernel_rfl) (fun _ _ _ h => h) (Or.inl ⟨by rfl, by (intro W _; go_simp)⟩) ?_
      simp only [Act.put, List.setIfInBounds_toArray, List.set_cons_succ, List.set_cons_zero]
      refine wpAnyY_pure (i := 6) 35 (v := .pointer (some ⟨p.b, 15, none⟩)) rfl rfl (by kernel_rfl) (by kernel_rfl) (by kernel_rfl) (fun _ _ _ h => h) (Or.inl ⟨by rfl, by (intro W _; go_simp)⟩) ?_
      simp only [Act.put, List.setIfInBounds_toArray, List.set_cons_succ, List.set_cons_zero]
      refine wpAnyY_takeD (i := 7) 36 (v := .int .i64 e.i) rfl rfl (by kernel_rfl) (by kernel_rfl) (late_of (by kernel_rfl)) (by kernel_rfl) (by kernel_rfl) (fun _ _ _ h => h) HS.out (Or.inl ⟨by rfl, by (intro W hW; obtain ⟨e0, e1, e2, e3⟩ := hW; go_simp)⟩) ?_
      simp only [Act.put, List.setIfInBounds_toArray, List.set_cons_succ, List.set_cons_zero]
      refine wpAnyY_pure (i := 8) 37 (v := .pointer (some ⟨p.b, 0, none⟩)) rfl rfl (by kernel_rfl) (by kernel_rfl) (by kernel_rfl) (fun _ _ _ h => h) (Or.inl ⟨by rfl, by (intro W _; go_simp)⟩) ?_
      simp only [Act.put, List.setIfInBounds_toArray, List.set_cons_succ, List.set_cons_zero]
      refine wpAnyY_pure (i := 9) 38 (v := .pointer (some ⟨p.b, 0, none⟩)) rfl rfl (by kernel_rfl) (by kernel_rfl) (by kernel_rfl) (fun _ _ _ h => h) (Or.inl ⟨by rfl, by (intro W _; go_simp)⟩) ?_
      simp only [Act.put, List.setIfInBounds_toArray, List.set_cons_succ, List.set_cons_zero]
      refine wpAnyY_pure (i := 10) 39 (v := .pointer (some ⟨p.b, 16, none⟩)) rfl rfl (by kernel_rfl) (by kernel_rfl) (by kernel_rfl) (fun _ _ _ h => h) (Or.inl ⟨by rfl, by (intro W _; go_simp)⟩) ?_
      simp only [Act.put, List.setIfInBounds_toArray, List.set_cons_succ, List.set_cons_zero]
      refine wpAnyY_takeD (i := 11) 40 (v := .int .i64 e.j) rfl rfl (by kernel_rfl) (by kernel_rfl) (late_of (by kernel_rfl)) (by kernel_rfl) (by kernel_rfl) (fun _ _ _ h => h) HS.out (Or.inl ⟨by rfl, by (intro W hW; obtain ⟨e0, e1, e2, e3⟩ := hW; go_simp)⟩) ?_
      simp only [Act.put, List.setIfInBounds_toArray, List.set_cons_succ, List.set_cons_zero]
      refine wpAnyY_pure (i := 12) 41 (v := .slice ak m cak) rfl rfl (by kernel_rfl) (by kernel_rfl) (by kernel_rfl) (fun _ _ _ h => h) (Or.inl ⟨by rfl, by (intro W _; go_simp)⟩) ?_
      simp only [Act.put, List.setIfInBounds_toArray, List.set_cons_succ, List.set_cons_zero]
      refine wpAnyY_pure (i := 13) 42 (v := .pointer (some ⟨p.b, 0, none⟩)) rfl rfl (by kernel_rfl) (by kernel_rfl) (by kernel_rfl) (fun _ _ _ h => h) (Or.inl ⟨by rfl, by (intro W _; go_simp)⟩) ?_
      simp only [Act.put, List.setIfInBounds_toArray, List.set_cons_succ, List.set_cons_zero]
      refine wpAnyY_pure (i := 14) 43 (v := .pointer (some ⟨p.b, 0, none⟩)) rfl rfl (by kernel_rfl) (by kernel_rfl) (by kernel_rfl) (fun _ _ _ h => h) (Or.inl ⟨by rfl, by (intro W _; go_simp)⟩) ?_
      simp only [Act.put, List.setIfInBounds_toArray, List.set_cons_succ, List.set_cons_zero]
      refine wpAnyY_pure (i := 15) 44 (v := .pointer (some ⟨p.b, 13, none⟩)) rfl rfl (by kernel_rfl) (by kernel_rfl) (by kernel_rfl) (fun _ _ _ h => h) (Or.inl ⟨by rfl, by (intro W _; go_simp)⟩) ?_
      simp only [Act.put, List.setIfInBounds_toArray, List.set_cons_succ, List.set_cons_zero]
      refine wpAnyY_takeD (i := 16) 45 (v := .bool e.found) rfl rfl (by kernel_rfl) (by kernel_rfl) (late_of (by kernel_rfl)) (by kernel_rfl) (by kernel_rfl) (fun _ _ _ h => h) HS.out (Or.inl ⟨by rfl, by (intro W hW; obtain ⟨e0, e1, e2, e3⟩ := hW; go_simp)⟩) ?_
      simp only [Act.put, List.setIfInBounds_toArray, List.set_cons_succ, List.set_cons_zero]
      refine wpAnyY_pure (i := 17) 2 (v := .int .i64 e.score) rfl rfl (by kernel_rfl) (by kernel_rfl) (by kernel_rfl) (fun _ _ _ h => h) (Or.inl ⟨by rfl, by (intro W _; go_simp)⟩) ?_
      simp only [Act.put, List.setIfInBounds_toArray, List.set_cons_succ, List.set_cons_zero]
      refine wpAnyY_pure (i := 18) 3 (v := .int .i64 e.i) rfl rfl (by kernel_rfl) (by kernel_rfl) (by kernel_rfl) (fun _ _ _ h => h) (Or.inl ⟨by rfl, by (intro W _; go_simp)⟩) ?_
      simp only [Act.put, List.setIfInBounds_toArray, List.set_cons_succ, List.set_cons_zero]
      refine wpAnyY_pure (i := 19) 4 (v := .int .i64 e.j) rfl rfl (by kernel_rfl) (by kernel_rfl) (by kernel_rfl) (fun _ _ _ h => h) (Or.inl ⟨by rfl, by (intro W _; go_simp)⟩) ?_
      simp only [Act.put, List.setIfInBounds_toArray, List.set_cons_succ, List.set_cons_zero]
      refine wpAnyY_pure (i := 20) 5 (v := .slice ak m cak) rfl rfl (by kernel_rfl) (by kernel_rfl) (by kernel_rfl) (fun _ _ _ h => h) (Or.inl ⟨by rfl, by (intro W _; go_simp)⟩) ?_
      simp only [Act.put, List.setIfInBounds_toArray, List.set_cons_succ, List.set_cons_zero]
      refine wpAnyY_pure (i := 21) 6 (v := .bool e.found) rfl rfl (by kernel_rfl) (by kernel_rfl) (by kernel_rfl) (fun _ _ _ h => h) (Or.inl ⟨by rfl, by (intro W _; go_simp)⟩) ?_
      simp only [Act.put, List.setIfInBounds_toArray, List.set_cons_succ, List.set_cons_zero]
      refine wpAnyY_done (by kernel_rfl) ?_ _
      go_wp2
      refine bodyPost_ret (v := .tuple #[.int .i64 e.score, .int .i64 e.i, .int .i64 e.j, .slice ak m cak, .bool e.found]) (by simp [results, go_sem]) rfl ?_
      refine ⟨ak, cak, by rw [HN.out], ?_⟩
      rw [HN.out]
      exact ⟨HO.out.1.drew, HO.out.2.drew⟩
    have hd : decide ((j : Int) < (n : Int)) = true := decide_eq_true (by omega)
    have hgk : 0 < gk := by omega
    obtain ⟨eb, hea, hec, heb⟩ := HE.out j hlt
    have hec := cell_bl HO.out.2 hec
    rw [hea] at c17
    obtain ⟨b, hb⟩ : ∃ b, pl j = b := ⟨_, rfl⟩
    rw [hb] at HSc hec
    generalize hll : risL pl j = l at *
    clear hb hll
    generalize hn : l.length = m at *
    have HN : Hid (l.length = m) := hn
    clear hn hea heb
    cases b
    · go_wp2
      go_roundg (gk - 1)
      case rel => exact ⟨j + 1, by omega, by go_num, by rw [HSc.out]; simp only [Bool.false_eq_true, if_false, List.append_nil]; rw [HN.out]; exact HO⟩
      case measure => omega
    · go_wp2_with (at_builtin; go_loud (refine wpList_append_own _ rfl _ _ 22 rfl w.heap.size 3 i1 (.int .i64 0) 1 8 Tryz.underlying22 hi hz0 hz1 hz2 rfl (by decide) (.slice ak m cak) _ _ rfl (HO.out.1.alloc _) ⟨_, 0, none⟩ 1 1 [.int .i64 j] rfl rfl ?c1 (one_int j) ?c3 ?c4 ?c5 ?_))
      case c3 => unfold maxLen; omega
      case c4 => omega
      case c5 => first | omega | (simp; omega)
      intro v' w3 hown' hgrow _
      have H3 : Hid (w3.ownsRow w.heap.size 3 1 v' (l ++ [(j : Int)]).length (intVals (l ++ [(j : Int)])) ∧ Below w.heap.size w w3) := by
        refine ⟨?_, (HO.out.2.alloc HO.out.2.size _).grown hgrow (by have := HO.out.2.size; simp; omega) (own_blk HO.out.1)⟩
        rw [intVals, List.map_append, List.length_append, HN.out]; exact hown'
      clear hown' hgrow HO c17 hec
      go_wp2
      go_roundg (gk - 1)
      case rel => exact ⟨j + 1, by omega, by go_num, by rw [HSc.out]; exact H3⟩
      case measure => omega

end Go.Proofs.YtnkfibahkmmnpaaGreat

namespace Go.Proofs.YtnkfibahkmmnpaaGreat
open Go.RowKit

section
variable {w0 w : World} {p : Dp} {c : Cd} {s : Ls} {sx sy se : Sl} {x y : List Int} {M : Ms} {st : Int}
/-- What next tells: a new row of planes, and whether there is a way. -/
def NextPost (P : Nat) (r : (Nat → Bool) × Bool) (w : World) (e : Ending) (w' : World) : Prop := e = .returned (.tuple #[.slice (some ⟨w.heap.size, 0, none⟩) P P, .bool r.2]) ∧ Below w.heap.size w w' ∧ w'.heap[w.heap.size]? = some (.cells (bsC r.1 P) 4 (0, 0))
set_option maxRecDepth 10000 in
set_option maxHeartbeats 2000000 in
theorem dnext_calls (h : Dt w0 w p c s sx sy x y se M st) (hn : Nrm c x.length y.length M) (hxy : (x.length + 1) * (y.length + 1) ≤ 1048576) (hcP : c.planes = (c.planes.toNat : Int)) (hP : c.planes.toNat ≤ 10)
    (sb : Nat) (S : Nat → Bool) (hS : w.heap[sb]? = some (.cells (bsC S c.planes.toNat) 4 (0, 0))) (i j : Nat) (hi : i ≤ 65536) (hj : j ≤ 65536) (z : Int) (hl : c.arrows.length ≤ 160)
    (ha : ∀ a ∈ c.arrows, (0 ≤ a.1 ∧ a.1 < c.planes.toNat) ∧ (0 ≤ a.2.1 ∧ a.2.1 < 16) ∧ (0 ≤ a.2.2.1 ∧ a.2.2.1 < c.planes.toNat)) :
    Calls Tryz.prog 24 #[.pointer (some ⟨p.b, 0, none⟩), .slice (some ⟨sb, 0, none⟩) c.planes.toNat c.planes.toNat, .int .i64 (i : Int), .int .i64 (j : Int), .int .i64 z] w (NextPost c.planes.toNat (goL (fun q => (atB c.planes.toNat x.length y.length M.slots q i j).mask.toNat) S z c.arrows) w) := by
  have HB : Hid (∀ q : Int, 0 ≤ (atB c.planes.toNat x.length y.length M.slots q i j).mask ∧ (atB c.planes.toNat x.length y.length M.slots q i j).mask < 65536) := fun q => by
    unfold atB
    split
    · exact hn.ok.slots _
    · exact ok_ct0
  have HAt : Hid (∀ (W : World) (q : Int), Below w.heap.size w W → Calls Tryz.prog 45 #[.pointer (some ⟨p.b, 0, none⟩), .int .i64 q, .int .i64 (i : Int), .int .i64 (j : Int)] W fun e w' => e = .returned (.agg (dcA (atB c.planes.toNat x.length y.length M.slots q i j))) ∧ Below W.heap.size W w') := fun W q hW => dat_calls (h.next hW) hn hxy hcP q i j (by omega) (by omega)
  have HA : Hid (QdsAt w s.r.a s.r.n c.arrows) := h.cd.arrows.below h.low
  have HBx : Hid (∀ W, Below w.heap.size w W → W.cell? ⟨p.b, 9, none⟩ = some (.slice s.r.a s.r.n s.r.c)) := fun W hW => (h.next hW).cell 9 rfl
  have HS : Hid (w.heap[sb]? = some (.cells (bsC S c.planes.toNat) 4 (0, 0)) ∧ sb < w.heap.size) := ⟨hS, lt_block hS⟩
  generalize hf : (fun q : Int => atB c.planes.toNat x.length y.length M.slots q i j) = f at *
  have hfq : ∀ q : Int, atB c.planes.toNat x.length y.length M.slots q i j = f q := fun q => by rw [← hf]
  simp only [hfq] at HB HAt ⊢
  clear hfq hf h hn hxy hcP hS
  generalize c.planes.toNat = P at *
  obtain ⟨l, hll⟩ : ∃ l, c.arrows = l := ⟨_, rfl⟩
  rw [hll] at HA hl ha ⊢
  obtain ⟨n, hn⟩ : ∃ n, l.length = n := ⟨_, rfl⟩
  have HL : Hid (l.length = n ∧ s.r.n = n) := ⟨hn, by rw [← hn, HA.out.length]⟩
  have HR : Hid (∀ a ∈ l, (0 ≤ a.1 ∧ a.1 < (P : Int)) ∧ (0 ≤ a.2.1 ∧ a.2.1 < 16) ∧ (0 ≤ a.2.2.1 ∧ a.2.2.1 < (P : Int))) := ha
  rw [hn] at hl
  clear hll hn ha
  have hm := make_bools P (by omega)
  have H0 : Hid ((w.alloc (.cells (bsC (fun _ => false) P) 4)).heap[w.heap.size]? = some (.cells (bsC (goL (fun q => (f q).mask.toNat) S z (l.take 0)).1 P) 4 (0, 0)) ∧ Below w.heap.size w (w.alloc (.cells (bsC (fun _ => false) P) 4))) := ⟨heap_alloc_new _ _, below_new _⟩
  go_enter Tryz.func24, Tryz.ntmps24
  go_wp2
  go_loopg [13, 14, 15, 16] n (fun q v13 v14 _ _ wr => ∃ k : Nat, k + q = n ∧ v14 = .int .i64 (k : Int) ∧ v13 = .bool (goL (fun q => (f q).mask.toNat) S z (l.take k)).2 ∧ Hid (wr.heap[w.heap.size]? = some (.cells (bsC (goL (fun q => (f q).mask.toNat) S z (l.take k)).1 P) 4 (0, 0)) ∧ Below w.heap.size w wr))
  case atStart => exact ⟨0, by omega, rfl, rfl, H0⟩
  case round =>
    clear H0
    obtain ⟨k, hkn, rfl, rfl, HO⟩ := hrel
    have c9 := HBx.out _ HO.out.2
    rw [HL.out.2] at c9
    by_cases hk : k < n
    rotate_left
    · have hd : decide ((k : Int) < (n : Int)) = false := decide_eq_false (by omega)
      have hkk : l.take k = l := List.take_of_length_le (by have := HL.out.1; omega)
      rw [hkk] at HO ⊢
      clear hkk
      go_wp2
      go_ret2
      exact ⟨rfl, HO.out.2, HO.out.1⟩
    have hd : decide ((k : Int) < (n : Int)) = true := decide_eq_true (by omega)
    have hgk : 0 < gk := by omega
    obtain ⟨a, hq⟩ : ∃ a, l[k]? = some a := ⟨l[k]'(by rw [HL.out.1]; exact hk), List.getElem?_eq_getElem _⟩
    obtain ⟨ab, ao, hra, hrc⟩ := HA.out.cells (by rw [HL.out.2]; omega)
    obtain ⟨y0, y1, y2, y3⟩ := hrc k a hq
    have y0 := cell_bl HO.out.2 y0
    have y1 := cell_bl HO.out.2 y1
    have y2 := cell_bl HO.out.2 y2
    have y3 := cell_bl HO.out.2 y3
    rw [hra] at c9
    have HT : Hid (goL (fun q => (f q).mask.toNat) S z (l.take (k + 1)) = goS (fun q => (f q).mask.toNat) S z (goL (fun q => (f q).mask.toNat) S z (l.take k)) a) := by
      show _ = _
      rw [List.take_add_one, hq]
      exact goL_snoc _ _ _ _ _
    obtain ⟨⟨g1, g2⟩, ⟨g3, g4⟩, g5, g6⟩ := HR.out a (List.mem_of_getElem? hq)
    obtain ⟨a0, a1, a2, a3⟩ := a
    simp only at y0 y1 y2 y3 g1 g2 g3 g4 g5 g6
    obtain ⟨pn, rfl⟩ := Int.eq_ofNat_of_zero_le g1
    obtain ⟨bt, rfl⟩ := Int.eq_ofNat_of_zero_le g3
    obtain ⟨fr, rfl⟩ := Int.eq_ofNat_of_zero_le g5
    have hpn : pn < P := by omega
    have hfr : fr < P := by omega
    have hbt : bt < 16 := by omega
    clear hrc hra hq g1 g2 g3 g4 g5 g6
    generalize goL (fun q => (f q).mask.toNat) S z (l.take k) = R at *
    obtain ⟨r1, r2⟩ := R
    simp only at HO
    go_wp2_with fail
    refine (HAt.out _ _ (HO.out.2.alloc HO.out.2.size _)).mono ?_
    rintro e w2 ⟨rfl, hb2⟩
    obtain ⟨mk, hmk⟩ := Int.eq_ofNat_of_zero_le (HB.out pn).1
    have HMk : Hid ((f (pn : Int)).mask.toNat = mk ∧ mk < 65536) := by
      have := (HB.out pn).2
      exact ⟨by rw [hmk]; rfl, by omega⟩
    unfold dcA
    rw [hmk]
    clear hmk
    generalize (f (pn : Int)).has = ch
    generalize (f (pn : Int)).num = cnm
    have HX : Hid (w2.heap[wr.heap.size]? = some (.cells #[.int .i64 (pn : Int), .int .i64 (bt : Int), .int .i64 (fr : Int), .int .i64 a3] 79 (0, 0)) ∧ w2.heap[w.heap.size]? = some (.cells (bsC r1 P) 4 (0, 0)) ∧ Below w.heap.size w w2 ∧ w2.heap[sb]? = some (.cells (bsC S P) 4 (0, 0))) := by
      have hb3 := HO.out.2.trans ((below_new (w := wr) (.cells #[.int .i64 (pn : Int), .int .i64 (bt : Int), .int .i64 (fr : Int), .int .i64 a3] 79)).mono HO.out.2.size)
      have hb4 : Below w.heap.size w w2 := hb3.trans (hb2.mono hb3.size)
      have hlw := lt_block HO.out.1
      refine ⟨by rw [hb2.block _ (by simp)]; exact heap_alloc_new _ _, ?_, hb4, by rw [hb4.block _ HS.out.2]; exact HS.out.1⟩
      rw [hb2.block _ (by simp; omega), (below_new _).block _ hlw]
      exact HO.out.1
    clear hb2 HO y0 y1 y2 y3 c9
    have HO3 : Hid ((w2.alloc (.cells #[.bool ch, .int .i64 cnm, .int .i64 (mk : Int)] 103)).heap[w.heap.size]? = some (.cells (bsC r1 P) 4 (0, 0)) ∧ Below w.heap.size w (w2.alloc (.cells #[.bool ch, .int .i64 cnm, .int .i64 (mk : Int)] 103))) := by
      have hb := below_new (w := w2) (.cells #[.bool ch, .int .i64 cnm, .int .i64 (mk : Int)] 103)
      exact ⟨by rw [hb.block _ (lt_block HX.out.2.1)]; exact HX.out.2.1, HX.out.2.2.1.trans (hb.mono HX.out.2.2.1.size)⟩
    have hl0 := lt_block HX.out.1
    have HM3 : Hid ((w2.alloc (.cells #[.bool ch, .int .i64 cnm, .int .i64 (mk : Int)] 103)).heap[w2.heap.size]? = some (.cells #[.bool ch, .int .i64 cnm, .int .i64 (mk : Int)] 103 (0, 0)) ∧ (w2.alloc (.cells #[.bool ch, .int .i64 cnm, .int .i64 (mk : Int)] 103)).heap[wr.heap.size]? = some (.cells #[.int .i64 (pn : Int), .int .i64 (bt : Int), .int .i64 (fr : Int), .int .i64 a3] 79 (0, 0)) ∧ (w2.alloc (.cells #[.bool ch, .int .i64 cnm, .int .i64 (mk : Int)] 103)).heap[sb]? = some (.cells (bsC S P) 4 (0, 0))) := by
      have hb := below_new (w := w2) (.cells #[.bool ch, .int .i64 cnm, .int .i64 (mk : Int)] 103)
      exact ⟨heap_alloc_new _ _, by rw [hb.block _ hl0]; exact HX.out.1, by rw [hb.block _ (lt_block HX.out.2.2.2)]; exact HX.out.2.2.2⟩
    go_upto_region 8 with (fail)
    obtain ⟨w3, hw3⟩ : ∃ w3, w3 = w2.alloc (.cells #[.bool ch, .int .i64 cnm, .int .i64 (mk : Int)] 103) := ⟨_, rfl⟩
    obtain ⟨mb, hmb⟩ : ∃ mb, w2.heap.size = mb := ⟨_, rfl⟩
    obtain ⟨rb, hrb⟩ : ∃ rb, wr.heap.size = rb := ⟨_, rfl⟩
    rw [← hw3] at HO3 HM3 ⊢
    rw [hmb, hrb] at HM3
    rw [hmb, hrb]
    clear hw3 hmb hrb HX hl0
    have x0 := cell_block HM3.out.2.1 0 (.int .i64 (pn : Int)) rfl
    have x1 := cell_block HM3.out.2.1 1 (.int .i64 (bt : Int)) rfl
    have x2 := cell_block HM3.out.2.1 2 (.int .i64 (fr : Int)) rfl
    have x3 := cell_block HM3.out.2.1 3 (.int .i64 a3) rfl
    have xm := cell_block HM3.out.1 2 (.int .i64 (mk : Int)) rfl
    have xs := cell_block HM3.out.2.2 pn (.bool (S pn)) (bsC_get _ _ hpn)
    have hpP : (pn : Int) < (P : Int) := by omega
    have hfP : (fr : Int) < (P : Int) := by omega
    have hbt2 : (bt : Int) < 64 := by omega
    by_cases hz : a3 = z
    rotate_left
    · have e1 : (a3 == z) = false := by simp [hz]
      have HN : Hid (goL (fun q => (f q).mask.toNat) S z (l.take (k + 1)) = (r1, r2)) := by
        show _ = _
        rw [HT.out]
        unfold goS openB
        rw [if_neg (by intro hh; exact hz hh.1)]
      clear HT
      go_wp2
      go_roundg (gk - 1)
      case rel => exact ⟨k + 1, by omega, by go_num, by rw [HN.out], by rw [HN.out]; exact HO3.out.1, HO3.out.2⟩
      case measure => omega
    have e1 : (a3 == z) = true := by simp [hz]
    cases hs : S pn with
    | false =>
      rw [hs] at xs
      have HN : Hid (goL (fun q => (f q).mask.toNat) S z (l.take (k + 1)) = (r1, r2)) := by
        show _ = _
        rw [HT.out]
        unfold goS openB
        rw [if_neg (by intro hh; have h2 := hh.2; simp only [Int.toNat_natCast, hs, Bool.false_and] at h2; exact Bool.noConfusion h2)]
      clear HT
      go_wp2
      go_roundg (gk - 1)
      case rel => exact ⟨k + 1, by omega, by go_num, by rw [HN.out], by rw [HN.out]; exact HO3.out.1, HO3.out.2⟩
      case measure => omega
    | true =>
      rw [hs] at xs
      have tb := tst_one (b := bt) HMk.out.2
      cases hb : mk.testBit bt with
      | false =>
        rw [hb] at tb
        have HN : Hid (goL (fun q => (f q).mask.toNat) S z (l.take (k + 1)) = (r1, r2)) := by
          show _ = _
          rw [HT.out]
          unfold goS openB
          rw [if_neg (by intro hh; have h2 := hh.2; simp only [Int.toNat_natCast, HMk.out.1, hs, hb, Bool.and_false] at h2; exact Bool.noConfusion h2)]
        clear HT
        go_wp2
        go_roundg (gk - 1)
        case rel => exact ⟨k + 1, by omega, by go_num, by rw [HN.out], by rw [HN.out]; exact HO3.out.1, HO3.out.2⟩
        case measure => omega
      | true =>
        rw [hb] at tb
        have HN : Hid (goL (fun q => (f q).mask.toNat) S z (l.take (k + 1)) = (putP r1 fr, true)) := by
          show _ = _
          rw [HT.out]
          unfold goS openB
          rw [if_pos ⟨hz, by simp only [Int.toNat_natCast, HMk.out.1, hs, hb, Bool.and_true]⟩]
          rfl
        clear HT
        clear HM3
        have t0 := cell_block HO3.out.1 fr (.bool (r1 fr)) (bsC_get _ _ hfr)
        have tf : w3.frozen? ⟨w.heap.size, fr, none⟩ = false := frozen_of_row _ _ fr _ _ HO3.out.1
        have HO4 : Hid ((w3.setCell ⟨w.heap.size, fr, none⟩ (.bool true)).heap[w.heap.size]? = some (.cells (bsC (putP r1 fr) P) 4 (0, 0)) ∧ Below w.heap.size w (w3.setCell ⟨w.heap.size, fr, none⟩ (.bool true))) := by
          refine ⟨?_, HO3.out.2.setCell (p := ⟨w.heap.size, fr, none⟩) (Nat.le_refl _) _⟩
          rw [heap_setCell_same _ _ _ _ _ _ HO3.out.1, bsC_set]
          rfl
        clear HO3
        go_wp2
        go_roundg (gk - 1)
        case rel => exact ⟨k + 1, by omega, by go_num, by rw [HN.out], by rw [HN.out]; exact HO4.out.1, HO4.out.2⟩
        case measure => omega
end
end Go.Proofs.YtnkfibahkmmnpaaGreat

namespace Go.Proofs.YtnkfibahkmmnpaaGreat
open Go.RowKit

def FoundOk (e : En) : Prop := e.found = false → ∀ k, e.planes k = false
theorem end_found {e : En} (p : Nat) (i j n : Int) : FoundOk (endB e p i j n) := by
  intro hf
  exfalso
  unfold endB at hf
  by_cases h1 : (!e.found || decide (e.score < n)) = true
  · simp only [h1, if_true, and_self] at hf
    exact Bool.noConfusion hf
  · have he : e.found = true := by
      cases h : e.found with
      | true => rfl
      | false => rw [h] at h1; exact absurd rfl h1
    simp only [h1, Bool.false_eq_true, if_false] at hf
    split at hf
    · rw [he] at hf; exact Bool.noConfusion hf
    · rw [he] at hf; exact Bool.noConfusion hf
theorem act_found (c : Cd) (x y : List Int) (i j : Nat) (M : Ms) (q : Qd) (h : FoundOk M.ends) : FoundOk (actB c x y i j M q).ends := by
  unfold actB
  split
  · exact h
  split
  · exact h
  split
  · exact h
  split
  · exact h
  split
  · show FoundOk (if i = 0 ∨ j = 0 then _ else _ : Ms).ends
    split <;> exact h
  split
  · exact h
  split
  · exact h
  show FoundOk (if _ then _ else M : Ms).ends
  split
  · exact end_found _ _ _ _
  · exact h
theorem acts_found (c : Cd) (x y : List Int) (i j : Nat) : ∀ (l : List Qd) (M : Ms), FoundOk M.ends → FoundOk (l.foldl (actB c x y i j) M).ends
  | [], _, h => h
  | q :: l, M, h => acts_found c x y i j l _ (act_found c x y i j M q h)
theorem run_found (c : Cd) (x y : List Int) : FoundOk (runM c x y).ends := by
  rw [runM_cells]
  refine cells_ind c x.length y.length (fun M p => cellM c x y p.1 p.2 M) ms0 (fun _ M => FoundOk M.ends) (fun _ _ => rfl) ?_
  intro pre i j M _ _ _ _ h
  exact acts_found c x y i j c.cell M h
/-- The world, its blocks from B on struck. -/
def cutW (B : Nat) (w : World) : World := { w with heap := w.heap.extract 0 B }
theorem cut_below {B : Nat} {w : World} (hB : B ≤ w.heap.size) : Below (cutW B w).heap.size (cutW B w) w := by
  have hs : (cutW B w).heap.size = B := by show (w.heap.extract 0 B).size = B; simp; omega
  refine ⟨rfl, rfl, rfl, by rw [hs]; exact hB, fun k hk => ?_⟩
  rw [hs] at hk
  show _ = (w.heap.extract 0 B)[k]?
  rw [Array.getElem?_extract]
  simp
  omega
theorem cut_size {B : Nat} {w : World} (hB : B ≤ w.heap.size) : (cutW B w).heap.size = B := by show (w.heap.extract 0 B).size = B; simp; omega
/-- What lies below B may be another: the document's table is read above it, the code and the sequences where they lie. -/
theorem Dt.rebase {w0 w w2 : World} {p : Dp} {c : Cd} {s : Ls} {sx sy se : Sl} {x y : List Int} {M : Ms} {st : Int} (h : Dt w0 w p c s sx sy x y se M st) (hs : w.heap.size ≤ w2.heap.size) (hk : ∀ k, w0.heap.size ≤ k → k < w.heap.size → w2.heap[k]? = w.heap[k]?)
    (hc : CdAt (cutW w0.heap.size w2) c s) (hx : IntsAt (cutW w0.heap.size w2) sx.a sx.n x) (hy : IntsAt (cutW w0.heap.size w2) sy.a sy.n y) (ho : w0.heap.size ≤ p.ob) : Dt (cutW w0.heap.size w2) w2 p c s sx sy x y se M st := by
  have hB : w0.heap.size ≤ w2.heap.size := Nat.le_trans h.low.size hs
  have hz := cut_size hB
  refine ⟨by rw [hk _ h.le.1 (lt_block h.box)]; exact h.box, by rw [hk _ ho (lt_block h.out)]; exact h.out, h.oq, fun q hq => by rw [hk _ (h.le.2.2 q hq) (lt_block (h.row q hq))]; exact h.row q hq, by rw [hk _ h.le.2.1 (lt_block h.reg)]; exact h.reg, ?_, h.inj, h.rg, hc, hx, hy, cut_below hB, by rw [hz]; exact h.le⟩
  rw [hz]
  rcases h.ends with h1 | ⟨h1, eb, h2, h3, h4⟩
  · exact Or.inl h1
  · exact Or.inr ⟨h1, eb, h2, h3, by rw [hk _ h3 (lt_block h4)]; exact h4⟩

end Go.Proofs.YtnkfibahkmmnpaaGreat
