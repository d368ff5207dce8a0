/-
  The walk of the document's meets. The walk of the document's ends.
-/
import Derived.Test.YtnkfibahkmmnpaaGreatKo
namespace Go.Proofs.YtnkfibahkmmnpaaGreat
open Go.RowKit

theorem tri_at (W : World) (o1 o2 o3 : Obj) : (((W.alloc o1).alloc o2).alloc o3).heap[W.heap.size]? = some o1 ∧ (((W.alloc o1).alloc o2).alloc o3).heap[W.heap.size + 1]? = some o2 ∧ (((W.alloc o1).alloc o2).alloc o3).heap[W.heap.size + 1 + 1]? = some o3 ∧ Below W.heap.size W (((W.alloc o1).alloc o2).alloc o3) := by
  have key : ∀ {W : World} {b : Nat} {o : Obj}, W.heap.size = b → (W.alloc o).heap[b]? = some o := fun h => by rw [← h]; exact heap_alloc_new _ _
  refine ⟨?_, ?_, key (by simp), ((below_new _).alloc (by simp) _).alloc (by simp; omega) _⟩
  · rw [(below_new _).block _ (by simp; omega), (below_new _).block _ (by simp)]; exact key rfl
  · rw [(below_new _).block _ (by simp)]; exact key (by simp)
theorem shl_bit {b : Nat} (hb : b < 16) : IntKind.i64.wrap (2 ^ b) = ((2 ^ b : Nat) : Int) := by
  have h2 : ((2 : Int) ^ b) = ((2 ^ b : Nat) : Int) := by simp
  have h3 : 2 ^ b ≤ 2 ^ 15 := Nat.pow_le_pow_right (by omega) (by omega)
  have h4 : 2 ^ 15 = 32768 := by decide
  rw [h2]
  generalize 2 ^ b = q at *
  rw [IntKind.wrap_i64]
  omega
theorem or_bits {m b : Nat} (hm : m < 65536) (hb : b < 65536) : bits .or .i64 (m : Int) (b : Int) = ((m ||| b : Nat) : Int) := by
  have e1 : ∀ k : Nat, k < 65536 → (BitVec.ofInt 64 (k : Int)).toNat = k := fun k hk => by rw [BitVec.toNat_ofInt]; omega
  show IntKind.i64.wrap (((BitVec.ofInt 64 (m : Int)) ||| (BitVec.ofInt 64 (b : Int))).toNat : Int) = _
  rw [BitVec.toNat_or, e1 m hm, e1 b hb]
  have : m ||| b < 65536 := or_small hm hb
  generalize m ||| b = q at *
  rw [IntKind.wrap_i64]
  omega
set_option maxRecDepth 10000 in
set_option maxHeartbeats 1000000 in
theorem dmeets_calls (A B : Ct) (b : Nat) (hb : b < 16) (hA : okN A) (w : World) :
    Calls Tryz.prog 38 #[.agg #[.bool A.has, .int .i64 A.num, .int .i64 A.mask], .agg #[.bool B.has, .int .i64 B.num, .int .i64 B.mask], .int .i64 (b : Int)] w fun e w' => e = .returned (.agg (dcA (metC A B b))) ∧ Below w.heap.size w w' := by
  have hres : Tryz.f38.results = #[.cell 6 103] := by kernel_rfl
  have H3 : Hid (_ ∧ _) := tri_at w (.cells #[.bool A.has, .int .i64 A.num, .int .i64 A.mask] 103) (.cells #[.bool B.has, .int .i64 B.num, .int .i64 B.mask] 103) (.cells #[.bool false, .int .i64 0, .int .i64 0] 103)
  have hb16 : (b : Int) < 16 := by omega
  have hb0 : (0 : Int) ≤ (b : Int) := by omega
  have HSh : Hid (IntKind.i64.wrap (2 ^ b) = ((2 ^ b : Nat) : Int)) := shl_bit hb
  have HOr : Hid (bits .or .i64 A.mask ((2 ^ b : Nat) : Int) = ((A.mask.toNat ||| 2 ^ b : Nat) : Int)) := by
    have h3 : 2 ^ b ≤ 2 ^ 15 := Nat.pow_le_pow_right (by omega) (by omega)
    have h4 : 2 ^ 15 = 32768 := by decide
    have e : A.mask = ((A.mask.toNat : Nat) : Int) := by have := hA.1; omega
    have h5 := or_bits (m := A.mask.toNat) (b := 2 ^ b) (by have := hA.2; omega) (by omega)
    show _ = _
    rw [← h5]
    rw [← e]
  have HM : Hid (metC A B b = if B.has = false then A else if (!A.has || decide (A.num < B.num)) = true then ⟨true, ((2 ^ b : Nat) : Int), B.num⟩ else if A.num = B.num then ⟨A.has, ((A.mask.toNat ||| 2 ^ b : Nat) : Int), A.num⟩ else A) := rfl
  clear hA
  cases hB : B.has with
  | false =>
    have HE : Hid (metC A B b = A) := by show _ = _; rw [HM.out, if_pos hB]
    clear HM HSh HOr hB H3
    go_enter Tryz.func38, Tryz.ntmps38
    go_wp2
    refine bodyPost_ret (v := .agg #[.bool A.has, .int .i64 A.num, .int .i64 A.mask]) ?_ rfl ⟨ret_agg2 (by rw [HE.out]; rfl), ((below_new _).alloc (by simp) _).alloc (by simp; omega) _⟩
    simp only [results, hres]
    go_simp
  | true =>
    by_cases hN : (!A.has || decide (A.num < B.num)) = true
    · have HE : Hid (metC A B b = ⟨true, ((2 ^ b : Nat) : Int), B.num⟩) := by show _ = _; rw [HM.out, if_neg (by rw [hB]; decide), if_pos hN]
      have hc : A.has = false ∨ (A.has = true ∧ decide (A.num < B.num) = true) := by
        cases hA : A.has with
        | false => exact Or.inl rfl
        | true => rw [hA] at hN; exact Or.inr ⟨rfl, by simpa using hN⟩
      clear HM hN HOr
      obtain ⟨ah, am, an⟩ := A
      obtain ⟨bh, bm, bn⟩ := B
      simp only at hc hB H3 HE ⊢
      subst hB
      rcases hc with rfl | ⟨rfl, hd⟩
      · go_enter Tryz.func38, Tryz.ntmps38
        go_upto_region 2 with (fail)
        obtain ⟨wd, hwd⟩ : ∃ wd, wd = (((w.alloc (.cells #[.bool false, .int .i64 an, .int .i64 am] 103)).alloc (.cells #[.bool true, .int .i64 bn, .int .i64 bm] 103)).alloc (.cells #[.bool false, .int .i64 0, .int .i64 0] 103)) := ⟨_, rfl⟩
        rw [← hwd] at H3 ⊢
        clear hwd
        have HS : Hid ((fun W : World => W.cell? ⟨w.heap.size + 1, 1, none⟩ = some (.int .i64 bn)) wd.drew) := cell_block H3.out.2.1 1 _ rfl
        refine wp_region_Y (fun j => [5].contains j) (fun W : World => W.cell? ⟨w.heap.size + 1, 1, none⟩ = some (.int .i64 bn)) (by kernel_rfl) ?_
        refine wpAnyY_pure (i := 0) 21 (v := .pointer (some ⟨w.heap.size + 1, 1, none⟩)) rfl rfl (by kernel_rfl) (by kernel_rfl) (by kernel_rfl) (fun _ _ _ h => h) (Or.inl ⟨by rfl, by (intro W _; go_simp)⟩) ?_
        simp only [Act.put, List.setIfInBounds_toArray, List.set_cons_succ, List.set_cons_zero]
        refine wpAnyY_takeD (i := 1) 22 (v := .int .i64 bn) rfl rfl (by kernel_rfl) (by kernel_rfl) (late_of (by kernel_rfl)) (by kernel_rfl) (by kernel_rfl) (fun _ _ _ h => h) HS.out (Or.inl ⟨by rfl, by (intro W hW; obtain e0 := hW; go_simp)⟩) ?_
        simp only [Act.put, List.setIfInBounds_toArray, List.set_cons_succ, List.set_cons_zero]
        refine wpAnyY_pure (i := 2) 23 (v := .int .i64 (b : Int)) rfl rfl (by kernel_rfl) (by kernel_rfl) (by kernel_rfl) (fun _ _ _ h => h) (Or.inl ⟨by rfl, by (intro W _; go_simp)⟩) ?_
        simp only [Act.put, List.setIfInBounds_toArray, List.set_cons_succ, List.set_cons_zero]
        refine wpAnyY_pure (i := 3) 24 (v := .int .i64 (IntKind.i64.wrap (2 ^ b))) rfl rfl (by kernel_rfl) (by kernel_rfl) (by kernel_rfl) (fun _ _ _ h => h) (Or.inl ⟨by rfl, by (intro W _; go_simp)⟩) ?_
        simp only [Act.put, List.setIfInBounds_toArray, List.set_cons_succ, List.set_cons_zero]
        refine wpAnyY_pure (i := 4) 25 (v := .agg #[.bool true, .int .i64 bn, .int .i64 (IntKind.i64.wrap (2 ^ b))]) rfl rfl (by kernel_rfl) (by kernel_rfl) (by kernel_rfl) (fun _ _ _ h => h) (Or.inl ⟨by rfl, by (intro W _; go_simp)⟩) ?_
        simp only [Act.put, List.setIfInBounds_toArray, List.set_cons_succ, List.set_cons_zero]
        have z0 := cell_block H3.out.2.2.1 0 _ rfl
        have z1 := cell_block H3.out.2.2.1 1 _ rfl
        have z2 := cell_block H3.out.2.2.1 2 _ rfl
        have zf : ∀ k, wd.frozen? ⟨w.heap.size + 1 + 1, k, none⟩ = false := fun k => frozen_of_row _ _ k _ _ H3.out.2.2.1
        rw [HSh.out]
        have HL : Hid (Below w.heap.size w wd) := H3.out.2.2.2
        refine wpAnyY_one (i := 5) rfl (by kernel_rfl) (fun Kc hKc => ?_)
        go_simp
        refine hKc.out _ _ (fun h => absurd h (by decide)) ?_
        clear hKc Kc
        refine wpAnyY_done (by kernel_rfl) ?_ _
        go_wp2
        have hle : w.heap.size ≤ w.heap.size + 1 + 1 := by omega
        refine bodyPost_ret (v := .agg #[.bool true, .int .i64 bn, .int .i64 ((2 ^ b : Nat) : Int)]) ?_ rfl ⟨ret_agg2 (by rw [HE.out]; rfl), (((HL.out.setCell (p := ⟨w.heap.size + 1 + 1, 0, none⟩) hle _).setCell (p := ⟨w.heap.size + 1 + 1, 1, none⟩) hle _).setCell (p := ⟨w.heap.size + 1 + 1, 2, none⟩) hle _).drew⟩
        simp only [results, hres]
        go_simp
      · go_enter Tryz.func38, Tryz.ntmps38
        go_upto_region 2 with (fail)
        obtain ⟨wd, hwd⟩ : ∃ wd, wd = (((w.alloc (.cells #[.bool true, .int .i64 an, .int .i64 am] 103)).alloc (.cells #[.bool true, .int .i64 bn, .int .i64 bm] 103)).alloc (.cells #[.bool false, .int .i64 0, .int .i64 0] 103)) := ⟨_, rfl⟩
        rw [← hwd] at H3 ⊢
        clear hwd
        have HS : Hid ((fun W : World => W.cell? ⟨w.heap.size + 1, 1, none⟩ = some (.int .i64 bn)) wd.drew) := cell_block H3.out.2.1 1 _ rfl
        refine wp_region_Y (fun j => [5].contains j) (fun W : World => W.cell? ⟨w.heap.size + 1, 1, none⟩ = some (.int .i64 bn)) (by kernel_rfl) ?_
        refine wpAnyY_pure (i := 0) 21 (v := .pointer (some ⟨w.heap.size + 1, 1, none⟩)) rfl rfl (by kernel_rfl) (by kernel_rfl) (by kernel_rfl) (fun _ _ _ h => h) (Or.inl ⟨by rfl, by (intro W _; go_simp)⟩) ?_
        simp only [Act.put, List.setIfInBounds_toArray, List.set_cons_succ, List.set_cons_zero]
        refine wpAnyY_takeD (i := 1) 22 (v := .int .i64 bn) rfl rfl (by kernel_rfl) (by kernel_rfl) (late_of (by kernel_rfl)) (by kernel_rfl) (by kernel_rfl) (fun _ _ _ h => h) HS.out (Or.inl ⟨by rfl, by (intro W hW; obtain e0 := hW; go_simp)⟩) ?_
        simp only [Act.put, List.setIfInBounds_toArray, List.set_cons_succ, List.set_cons_zero]
        refine wpAnyY_pure (i := 2) 23 (v := .int .i64 (b : Int)) rfl rfl (by kernel_rfl) (by kernel_rfl) (by kernel_rfl) (fun _ _ _ h => h) (Or.inl ⟨by rfl, by (intro W _; go_simp)⟩) ?_
        simp only [Act.put, List.setIfInBounds_toArray, List.set_cons_succ, List.set_cons_zero]
        refine wpAnyY_pure (i := 3) 24 (v := .int .i64 (IntKind.i64.wrap (2 ^ b))) rfl rfl (by kernel_rfl) (by kernel_rfl) (by kernel_rfl) (fun _ _ _ h => h) (Or.inl ⟨by rfl, by (intro W _; go_simp)⟩) ?_
        simp only [Act.put, List.setIfInBounds_toArray, List.set_cons_succ, List.set_cons_zero]
        refine wpAnyY_pure (i := 4) 25 (v := .agg #[.bool true, .int .i64 bn, .int .i64 (IntKind.i64.wrap (2 ^ b))]) rfl rfl (by kernel_rfl) (by kernel_rfl) (by kernel_rfl) (fun _ _ _ h => h) (Or.inl ⟨by rfl, by (intro W _; go_simp)⟩) ?_
        simp only [Act.put, List.setIfInBounds_toArray, List.set_cons_succ, List.set_cons_zero]
        have z0 := cell_block H3.out.2.2.1 0 _ rfl
        have z1 := cell_block H3.out.2.2.1 1 _ rfl
        have z2 := cell_block H3.out.2.2.1 2 _ rfl
        have zf : ∀ k, wd.frozen? ⟨w.heap.size + 1 + 1, k, none⟩ = false := fun k => frozen_of_row _ _ k _ _ H3.out.2.2.1
        rw [HSh.out]
        have HL : Hid (Below w.heap.size w wd) := H3.out.2.2.2
        refine wpAnyY_one (i := 5) rfl (by kernel_rfl) (fun Kc hKc => ?_)
        go_simp
        refine hKc.out _ _ (fun h => absurd h (by decide)) ?_
        clear hKc Kc
        refine wpAnyY_done (by kernel_rfl) ?_ _
        go_wp2
        have hle : w.heap.size ≤ w.heap.size + 1 + 1 := by omega
        refine bodyPost_ret (v := .agg #[.bool true, .int .i64 bn, .int .i64 ((2 ^ b : Nat) : Int)]) ?_ rfl ⟨ret_agg2 (by rw [HE.out]; rfl), (((HL.out.setCell (p := ⟨w.heap.size + 1 + 1, 0, none⟩) hle _).setCell (p := ⟨w.heap.size + 1 + 1, 1, none⟩) hle _).setCell (p := ⟨w.heap.size + 1 + 1, 2, none⟩) hle _).drew⟩
        simp only [results, hres]
        go_simp
    · have hA : A.has = true := by
        cases hA : A.has with
        | true => rfl
        | false => rw [hA] at hN; exact absurd rfl hN
      have hd : decide (A.num < B.num) = false := by
        rw [hA] at hN
        simpa using hN
      by_cases hE : A.num = B.num
      · have HE : Hid (metC A B b = ⟨A.has, ((A.mask.toNat ||| 2 ^ b : Nat) : Int), A.num⟩) := by show _ = _; rw [HM.out, if_neg (by rw [hB]; decide), if_neg hN, if_pos hE]
        have he : (B.num == A.num) = true := by simp [hE]
        clear HM hN
        obtain ⟨ah, am, an⟩ := A
        obtain ⟨bh, bm, bn⟩ := B
        simp only at hA hB hE hd he H3 HE HOr ⊢
        subst hA hB
        clear hE
        go_enter Tryz.func38, Tryz.ntmps38
        go_upto_region 4 with (fail)
        obtain ⟨wd, hwd⟩ : ∃ wd, wd = (((w.alloc (.cells #[.bool true, .int .i64 an, .int .i64 am] 103)).alloc (.cells #[.bool true, .int .i64 bn, .int .i64 bm] 103)).alloc (.cells #[.bool false, .int .i64 0, .int .i64 0] 103)) := ⟨_, rfl⟩
        rw [← hwd] at H3 ⊢
        clear hwd
        have HS : Hid ((fun W : World => W.cell? ⟨w.heap.size, 2, none⟩ = some (.int .i64 am)) wd.drew) := cell_block H3.out.1 2 _ rfl
        refine wp_region_Y (fun j => [6].contains j) (fun W : World => W.cell? ⟨w.heap.size, 2, none⟩ = some (.int .i64 am)) (by kernel_rfl) ?_
        refine wpAnyY_pure (i := 0) 35 (v := .pointer (some ⟨w.heap.size, 2, none⟩)) rfl rfl (by kernel_rfl) (by kernel_rfl) (by kernel_rfl) (fun _ _ _ h => h) (Or.inl ⟨by rfl, by (intro W _; go_simp)⟩) ?_
        simp only [Act.put, List.setIfInBounds_toArray, List.set_cons_succ, List.set_cons_zero]
        refine wpAnyY_takeD (i := 1) 36 (v := .int .i64 am) rfl rfl (by kernel_rfl) (by kernel_rfl) (late_of (by kernel_rfl)) (by kernel_rfl) (by kernel_rfl) (fun _ _ _ h => h) HS.out (Or.inl ⟨by rfl, by (intro W hW; obtain e0 := hW; go_simp)⟩) ?_
        simp only [Act.put, List.setIfInBounds_toArray, List.set_cons_succ, List.set_cons_zero]
        refine wpAnyY_pure (i := 2) 37 (v := .int .i64 (b : Int)) rfl rfl (by kernel_rfl) (by kernel_rfl) (by kernel_rfl) (fun _ _ _ h => h) (Or.inl ⟨by rfl, by (intro W _; go_simp)⟩) ?_
        simp only [Act.put, List.setIfInBounds_toArray, List.set_cons_succ, List.set_cons_zero]
        refine wpAnyY_pure (i := 3) 38 (v := .int .i64 (IntKind.i64.wrap (2 ^ b))) rfl rfl (by kernel_rfl) (by kernel_rfl) (by kernel_rfl) (fun _ _ _ h => h) (Or.inl ⟨by rfl, by (intro W _; go_simp)⟩) ?_
        simp only [Act.put, List.setIfInBounds_toArray, List.set_cons_succ, List.set_cons_zero]
        refine wpAnyY_pure (i := 4) 39 (v := .int .i64 (bits .or .i64 am (IntKind.i64.wrap (2 ^ b)))) rfl rfl (by kernel_rfl) (by kernel_rfl) (by kernel_rfl) (fun _ _ _ h => h) (Or.inl ⟨by rfl, by (intro W _; go_simp)⟩) ?_
        simp only [Act.put, List.setIfInBounds_toArray, List.set_cons_succ, List.set_cons_zero]
        refine wpAnyY_pure (i := 5) 40 (v := .pointer (some ⟨w.heap.size, 2, none⟩)) rfl rfl (by kernel_rfl) (by kernel_rfl) (by kernel_rfl) (fun _ _ _ h => h) (Or.inl ⟨by rfl, by (intro W _; go_simp)⟩) ?_
        simp only [Act.put, List.setIfInBounds_toArray, List.set_cons_succ, List.set_cons_zero]
        rw [HSh.out, HOr.out]
        have y0 := cell_block H3.out.1 0 _ rfl
        have y1 := cell_block H3.out.1 1 _ rfl
        have y2 := cell_block H3.out.1 2 _ rfl
        have yf : ∀ k, wd.frozen? ⟨w.heap.size, k, none⟩ = false := fun k => frozen_of_row _ _ k _ _ H3.out.1
        have z0 := cell_block H3.out.2.2.1 0 _ rfl
        have z1 := cell_block H3.out.2.2.1 1 _ rfl
        have z2 := cell_block H3.out.2.2.1 2 _ rfl
        have zf : ∀ k, wd.frozen? ⟨w.heap.size + 1 + 1, k, none⟩ = false := fun k => frozen_of_row _ _ k _ _ H3.out.2.2.1
        have HL : Hid (Below w.heap.size w wd) := H3.out.2.2.2
        refine wpAnyY_one (i := 6) rfl (by kernel_rfl) (fun Kc hKc => ?_)
        go_simp
        refine hKc.out _ _ (fun h => absurd h (by decide)) ?_
        clear hKc Kc
        refine wpAnyY_done (by kernel_rfl) ?_ _
        go_wp2
        have hle : w.heap.size ≤ w.heap.size + 1 + 1 := by omega
        refine bodyPost_ret (v := .agg #[.bool true, .int .i64 an, .int .i64 ((am.toNat ||| 2 ^ b : Nat) : Int)]) ?_ rfl ⟨ret_agg2 (by rw [HE.out]; rfl), ?_⟩
        · simp only [results, hres]
          go_simp
        · exact ((((HL.out.drew.setCell (p := ⟨w.heap.size, 2, none⟩) (Nat.le_refl _) _).setCell (p := ⟨w.heap.size + 1 + 1, 0, none⟩) hle _).setCell (p := ⟨w.heap.size + 1 + 1, 1, none⟩) hle _).setCell (p := ⟨w.heap.size + 1 + 1, 2, none⟩) hle _)
      · have HE : Hid (metC A B b = A) := by show _ = _; rw [HM.out, if_neg (by rw [hB]; decide), if_neg hN, if_neg hE]
        have he : (B.num == A.num) = false := by simp; exact fun h => hE h.symm
        clear HM hN HSh HOr H3
        obtain ⟨ah, am, an⟩ := A
        obtain ⟨bh, bm, bn⟩ := B
        simp only at hA hB hE hd he HE ⊢
        subst hA hB
        clear hE
        go_enter Tryz.func38, Tryz.ntmps38
        go_wp2
        refine bodyPost_ret (v := .agg #[.bool true, .int .i64 an, .int .i64 am]) ?_ rfl ⟨ret_agg2 (by rw [HE.out]; rfl), ((below_new _).alloc (by simp) _).alloc (by simp; omega) _⟩
        simp only [results, hres]
        go_simp

end Go.Proofs.YtnkfibahkmmnpaaGreat
namespace Go.Proofs.YtnkfibahkmmnpaaGreat
open Go.RowKit

theorem made1 (n : Nat) : madeCells #[.bool false] n = bsC (fun _ => false) n := by
  apply Array.ext_getElem?
  intro j
  by_cases hj : j < n
  · rw [bsC_get _ _ hj]; simp [madeCells, hj, Nat.mod_one]
  · rw [Array.getElem?_eq_none (by simp [madeCells]; omega), Array.getElem?_eq_none (by simp [bsC]; omega)]
theorem inf4b : (Tryz.prog.info? 4).map (fun i => (i.zero, i.size, i.bytes)) = some (some (.bool false), 1, 1) := by kernel_rfl
theorem make_bools (n : Nat) (hn : n ≤ 1000) (W : World) : (Instr.makeSlice 59 (.int .i64 n) (.int .i64 n)).run Tryz.prog W = .ok (.slice (some ⟨W.heap.size, 0, none⟩) n n) (W.alloc (.cells (bsC (fun _ => false) n) 4)) := by
  obtain ⟨i, hi, hz, hs, hb⟩ := info_parts inf4b
  have := run_make (P := Tryz.prog) W 59 4 i _ Tryz.underlying59 hi hz .i64 .i64 n n (by omega) (by omega) (by rw [hb]; omega) (by omega)
  rw [this, hs, Int.toNat_natCast, Nat.mul_one, ← made1]; rfl
section
variable {w0 w : World} {p : Dp} {c : Cd} {s : Ls} {sx sy se : Sl} {x y : List Int} {M : Ms} {st : Int}
/-- What ends leaves. -/
def EndPost (w0 : World) (p : Dp) (c : Cd) (s : Ls) (sx sy : Sl) (x y : List Int) (M : Ms) (e : En) (st : Int) (r : Ending) (w' : World) : Prop := r = .returned (.tuple #[]) ∧ ∃ se2, Dt w0 w' p c s sx sy x y se2 { M with ends := e } st
theorem Dt.same (h : Dt w0 w p c s sx sy x y se M st) {e : En} (he : e = M.ends) : Dt w0 w p c s sx sy x y se { M with ends := e } st := by subst he; exact h
set_option maxRecDepth 10000 in
set_option maxHeartbeats 2000000 in
theorem dends_new (h : Dt w0 w p c s sx sy x y se M st) (hP : c.planes.toNat ≤ 10) (q : Nat) (hq : q < c.planes.toNat) (n i j : Int) (ha : (!M.ends.found || decide (M.ends.score < n)) = true) :
    Calls Tryz.prog 40 #[.pointer (some ⟨p.b, 0, none⟩), .int .i64 (q : Int), .int .i64 n, .int .i64 i, .int .i64 j] w (EndPost w0 p c s sx sy x y M (endB M.ends q i j n) st) := by
  have HE : Hid (endB M.ends q i j n = ⟨true, n, i, j, fun k => if k = q then true else false⟩) := by
    show _ = _
    unfold endB
    simp only [ha, if_true, and_self]
  rw [HE.out]
  have c1 := h.cell 1 (v := .int .i64 c.planes) rfl
  have hcP : c.planes = (c.planes.toNat : Int) := by omega
  rw [hcP] at c1
  have c13 := h.cell 13 (v := .bool M.ends.found) rfl
  have c14 := h.cell 14 (v := .int .i64 M.ends.score) rfl
  have c15 := h.cell 15 (v := .int .i64 M.ends.i) rfl
  have c16 := h.cell 16 (v := .int .i64 M.ends.j) rfl
  have c17 := h.cell 17 (v := .slice se.a se.n se.c) rfl
  have f13 := h.fz 13
  have f14 := h.fz 14
  have f15 := h.fz 15
  have f16 := h.fz 16
  have hlb := lt_block h.box
  obtain ⟨P, hPP⟩ : ∃ P, c.planes.toNat = P := ⟨_, rfl⟩
  have HPP : Hid (c.planes.toNat = P) := hPP
  rw [hPP] at c1 hq hP
  have hm := make_bools P (by omega)
  have hqi : (q : Int) < (P : Int) := by omega
  have H0 : Hid (Dt w0 w p c s sx sy x y se M st) := h
  have HW1 : Hid (((((w.setCell ⟨p.b, 13, none⟩ (.bool true)).setCell ⟨p.b, 14, none⟩ (.int .i64 n)).setCell ⟨p.b, 15, none⟩ (.int .i64 i)).setCell ⟨p.b, 16, none⟩ (.int .i64 j)).heap[p.b]? = some (.cells (tdCells p c s sx sy c.planes.toNat c.regs.toNat ⟨true, n, i, j, fun _ => false⟩ se st) 61 (0, 0)) ∧ (∀ k, k ≠ p.b → ((((w.setCell ⟨p.b, 13, none⟩ (.bool true)).setCell ⟨p.b, 14, none⟩ (.int .i64 n)).setCell ⟨p.b, 15, none⟩ (.int .i64 i)).setCell ⟨p.b, 16, none⟩ (.int .i64 j)).heap[k]? = w.heap[k]?) ∧ Below w0.heap.size w0 ((((w.setCell ⟨p.b, 13, none⟩ (.bool true)).setCell ⟨p.b, 14, none⟩ (.int .i64 n)).setCell ⟨p.b, 15, none⟩ (.int .i64 i)).setCell ⟨p.b, 16, none⟩ (.int .i64 j)) ∧ ((((w.setCell ⟨p.b, 13, none⟩ (.bool true)).setCell ⟨p.b, 14, none⟩ (.int .i64 n)).setCell ⟨p.b, 15, none⟩ (.int .i64 i)).setCell ⟨p.b, 16, none⟩ (.int .i64 j)).heap.size = w.heap.size) := by
    have r0 := heap_setCell_same w p.b 13 _ 61 (.bool true) h.box
    have r1 := heap_setCell_same _ p.b 14 _ 61 (.int .i64 n) r0
    have r2 := heap_setCell_same _ p.b 15 _ 61 (.int .i64 i) r1
    have r3 := heap_setCell_same _ p.b 16 _ 61 (.int .i64 j) r2
    refine ⟨by rw [r3]; rfl, fun k hk => ?_, (((h.low.setCell (p := ⟨p.b, 13, none⟩) h.le.1 _).setCell (p := ⟨p.b, 14, none⟩) h.le.1 _).setCell (p := ⟨p.b, 15, none⟩) h.le.1 _).setCell (p := ⟨p.b, 16, none⟩) h.le.1 _, by simp⟩
    rw [Below.heap_setCell _ _ _ _ hk, Below.heap_setCell _ _ _ _ hk, Below.heap_setCell _ _ _ _ hk, Below.heap_setCell _ _ _ _ hk]
  have hc : M.ends.found = false ∨ (M.ends.found = true ∧ M.ends.score < n) := by
    cases hf : M.ends.found with
    | false => exact Or.inl rfl
    | true => rw [hf] at ha; exact Or.inr ⟨rfl, by simpa using ha⟩
  clear h ha hPP HE hcP
  rcases hc with hf | ⟨hf, hs⟩
  · rw [hf] at c13
    clear hf
    go_enter Tryz.func40, Tryz.ntmps40
    go_upto_region 6 with (fail)
    obtain ⟨wa, hwa⟩ : ∃ wa, wa = ((((w.setCell ⟨p.b, 13, none⟩ (.bool true)).setCell ⟨p.b, 14, none⟩ (.int .i64 n)).setCell ⟨p.b, 15, none⟩ (.int .i64 i)).setCell ⟨p.b, 16, none⟩ (.int .i64 j)) := ⟨_, rfl⟩
    rw [← hwa] at HW1 ⊢
    clear hwa
    have b1 := cell_block HW1.out.1 1 (.int .i64 c.planes) rfl
    have b15 := cell_block HW1.out.1 15 (.int .i64 i) rfl
    have b16 := cell_block HW1.out.1 16 (.int .i64 j) rfl
    have b17 := cell_block HW1.out.1 17 (.slice se.a se.n se.c) rfl
    have bf : wa.frozen? ⟨p.b, 17, none⟩ = false := frozen_of_row _ _ 17 _ _ HW1.out.1
    have hcP2 : c.planes = (P : Int) := by have h1 := HPP.out; omega
    rw [hcP2] at b1
    clear c1 c13 c14 c15 c16 c17 f13 f14 f15 f16
    have hlb2 : p.b < wa.heap.size := lt_block HW1.out.1
    go_upto_region 7 with (fail)
    have HWb : Hid (((wa.setCell ⟨p.b, 17, none⟩ (.slice (some ⟨wa.heap.size, 0, none⟩) P P)).alloc (.cells (bsC (fun _ => false) P) 4)).heap[p.b]? = some (.cells (tdCells p c s sx sy c.planes.toNat c.regs.toNat ⟨true, n, i, j, fun _ => false⟩ ⟨some ⟨wa.heap.size, 0, none⟩, P, P⟩ st) 61 (0, 0)) ∧ ((wa.setCell ⟨p.b, 17, none⟩ (.slice (some ⟨wa.heap.size, 0, none⟩) P P)).alloc (.cells (bsC (fun _ => false) P) 4)).heap[wa.heap.size]? = some (.cells (bsC (fun _ => false) P) 4 (0, 0)) ∧ (∀ k, k < wa.heap.size → k ≠ p.b → ((wa.setCell ⟨p.b, 17, none⟩ (.slice (some ⟨wa.heap.size, 0, none⟩) P P)).alloc (.cells (bsC (fun _ => false) P) 4)).heap[k]? = wa.heap[k]?) ∧ Below w0.heap.size w0 ((wa.setCell ⟨p.b, 17, none⟩ (.slice (some ⟨wa.heap.size, 0, none⟩) P P)).alloc (.cells (bsC (fun _ => false) P) 4))) := by
      have hsz : (wa.setCell ⟨p.b, 17, none⟩ (.slice (some ⟨wa.heap.size, 0, none⟩) P P)).heap.size = wa.heap.size := by simp
      have r0 := heap_setCell_same wa p.b 17 _ 61 (.slice (some ⟨wa.heap.size, 0, none⟩) P P) HW1.out.1
      refine ⟨?_, ?_, fun k hk hkb => ?_, ?_⟩
      · rw [(below_new _).block _ (by rw [hsz]; exact hlb2), r0]; rfl
      · have := heap_alloc_new (wa.setCell ⟨p.b, 17, none⟩ (.slice (some ⟨wa.heap.size, 0, none⟩) P P)) (.cells (bsC (fun _ => false) P) 4)
        rw [hsz] at this
        exact this
      · rw [(below_new _).block _ (by rw [hsz]; exact hk), Below.heap_setCell _ _ _ _ hkb]
      · exact (HW1.out.2.2.1.setCell (p := ⟨p.b, 17, none⟩) H0.out.le.1 _).alloc (by rw [hsz, HW1.out.2.2.2]; exact H0.out.low.size) _
    obtain ⟨wb, hwb⟩ : ∃ wb, wb = (wa.setCell ⟨p.b, 17, none⟩ (.slice (some ⟨wa.heap.size, 0, none⟩) P P)).alloc (.cells (bsC (fun _ => false) P) 4) := ⟨_, rfl⟩
    rw [← hwb] at HWb ⊢
    clear hwb b1 b15 b16 b17 bf
    have b15 := cell_block HWb.out.1 15 (.int .i64 i) rfl
    have b16 := cell_block HWb.out.1 16 (.int .i64 j) rfl
    have b17 := cell_block HWb.out.1 17 (.slice (some ⟨wa.heap.size, 0, none⟩) P P) rfl
    have e0 := cell_block HWb.out.2.1 q (.bool false) (bsC_get _ _ hq)
    have ef : wb.frozen? ⟨wa.heap.size, q, none⟩ = false := frozen_of_row _ _ q _ _ HWb.out.2.1
    have ei : (i == i) = true := by simp
    have ej : (j == j) = true := by simp
    have HF : Hid (Dt w0 (wb.setCell ⟨wa.heap.size, q, none⟩ (.bool true)) p c s sx sy x y ⟨some ⟨wa.heap.size, 0, none⟩, P, P⟩ { M with ends := ⟨true, n, i, j, fun k => if k = q then true else false⟩ } st) := by
      have hne : p.b ≠ wa.heap.size := by omega
      have hw := HW1.out.2.2.2
      refine H0.out.boxW (e := ⟨true, n, i, j, fun k => if k = q then true else false⟩) ?_ (fun k hk hkb => ?_) ?_ ?_
      · rw [Below.heap_setCell _ _ _ _ hne]; exact HWb.out.1
      · rw [Below.heap_setCell _ _ _ _ (by show k ≠ wa.heap.size; omega), HWb.out.2.2.1 k (by omega) hkb]; exact HW1.out.2.1 k hkb
      · refine Or.inr ⟨rfl, wa.heap.size, by rw [HPP.out], by have := H0.out.low.size; omega, ?_⟩
        rw [heap_setCell_same _ _ _ _ _ _ HWb.out.2.1, bsC_set, HPP.out]
      · exact HWb.out.2.2.2.setCell (p := ⟨wa.heap.size, q, none⟩) (by have := H0.out.low.size; show w0.heap.size ≤ wa.heap.size; omega) _
    clear HW1 HWb H0 HPP hm
    go_wp2
    go_end0
    exact ⟨rfl, _, HF.out⟩
  · rw [hf] at c13
    have d1 : decide (n < M.ends.score) = false := decide_eq_false (by omega)
    have d2 : decide (M.ends.score < n) = true := decide_eq_true hs
    clear hf hs
    go_enter Tryz.func40, Tryz.ntmps40
    go_upto_region 6 with (fail)
    obtain ⟨wa, hwa⟩ : ∃ wa, wa = ((((w.setCell ⟨p.b, 13, none⟩ (.bool true)).setCell ⟨p.b, 14, none⟩ (.int .i64 n)).setCell ⟨p.b, 15, none⟩ (.int .i64 i)).setCell ⟨p.b, 16, none⟩ (.int .i64 j)) := ⟨_, rfl⟩
    rw [← hwa] at HW1 ⊢
    clear hwa
    have b1 := cell_block HW1.out.1 1 (.int .i64 c.planes) rfl
    have b15 := cell_block HW1.out.1 15 (.int .i64 i) rfl
    have b16 := cell_block HW1.out.1 16 (.int .i64 j) rfl
    have b17 := cell_block HW1.out.1 17 (.slice se.a se.n se.c) rfl
    have bf : wa.frozen? ⟨p.b, 17, none⟩ = false := frozen_of_row _ _ 17 _ _ HW1.out.1
    have hcP2 : c.planes = (P : Int) := by have h1 := HPP.out; omega
    rw [hcP2] at b1
    clear c1 c13 c14 c15 c16 c17 f13 f14 f15 f16
    have hlb2 : p.b < wa.heap.size := lt_block HW1.out.1
    go_upto_region 7 with (fail)
    have HWb : Hid (((wa.setCell ⟨p.b, 17, none⟩ (.slice (some ⟨wa.heap.size, 0, none⟩) P P)).alloc (.cells (bsC (fun _ => false) P) 4)).heap[p.b]? = some (.cells (tdCells p c s sx sy c.planes.toNat c.regs.toNat ⟨true, n, i, j, fun _ => false⟩ ⟨some ⟨wa.heap.size, 0, none⟩, P, P⟩ st) 61 (0, 0)) ∧ ((wa.setCell ⟨p.b, 17, none⟩ (.slice (some ⟨wa.heap.size, 0, none⟩) P P)).alloc (.cells (bsC (fun _ => false) P) 4)).heap[wa.heap.size]? = some (.cells (bsC (fun _ => false) P) 4 (0, 0)) ∧ (∀ k, k < wa.heap.size → k ≠ p.b → ((wa.setCell ⟨p.b, 17, none⟩ (.slice (some ⟨wa.heap.size, 0, none⟩) P P)).alloc (.cells (bsC (fun _ => false) P) 4)).heap[k]? = wa.heap[k]?) ∧ Below w0.heap.size w0 ((wa.setCell ⟨p.b, 17, none⟩ (.slice (some ⟨wa.heap.size, 0, none⟩) P P)).alloc (.cells (bsC (fun _ => false) P) 4))) := by
      have hsz : (wa.setCell ⟨p.b, 17, none⟩ (.slice (some ⟨wa.heap.size, 0, none⟩) P P)).heap.size = wa.heap.size := by simp
      have r0 := heap_setCell_same wa p.b 17 _ 61 (.slice (some ⟨wa.heap.size, 0, none⟩) P P) HW1.out.1
      refine ⟨?_, ?_, fun k hk hkb => ?_, ?_⟩
      · rw [(below_new _).block _ (by rw [hsz]; exact hlb2), r0]; rfl
      · have := heap_alloc_new (wa.setCell ⟨p.b, 17, none⟩ (.slice (some ⟨wa.heap.size, 0, none⟩) P P)) (.cells (bsC (fun _ => false) P) 4)
        rw [hsz] at this
        exact this
      · rw [(below_new _).block _ (by rw [hsz]; exact hk), Below.heap_setCell _ _ _ _ hkb]
      · exact (HW1.out.2.2.1.setCell (p := ⟨p.b, 17, none⟩) H0.out.le.1 _).alloc (by rw [hsz, HW1.out.2.2.2]; exact H0.out.low.size) _
    obtain ⟨wb, hwb⟩ : ∃ wb, wb = (wa.setCell ⟨p.b, 17, none⟩ (.slice (some ⟨wa.heap.size, 0, none⟩) P P)).alloc (.cells (bsC (fun _ => false) P) 4) := ⟨_, rfl⟩
    rw [← hwb] at HWb ⊢
    clear hwb b1 b15 b16 b17 bf
    have b15 := cell_block HWb.out.1 15 (.int .i64 i) rfl
    have b16 := cell_block HWb.out.1 16 (.int .i64 j) rfl
    have b17 := cell_block HWb.out.1 17 (.slice (some ⟨wa.heap.size, 0, none⟩) P P) rfl
    have e0 := cell_block HWb.out.2.1 q (.bool false) (bsC_get _ _ hq)
    have ef : wb.frozen? ⟨wa.heap.size, q, none⟩ = false := frozen_of_row _ _ q _ _ HWb.out.2.1
    have ei : (i == i) = true := by simp
    have ej : (j == j) = true := by simp
    have HF : Hid (Dt w0 (wb.setCell ⟨wa.heap.size, q, none⟩ (.bool true)) p c s sx sy x y ⟨some ⟨wa.heap.size, 0, none⟩, P, P⟩ { M with ends := ⟨true, n, i, j, fun k => if k = q then true else false⟩ } st) := by
      have hne : p.b ≠ wa.heap.size := by omega
      have hw := HW1.out.2.2.2
      refine H0.out.boxW (e := ⟨true, n, i, j, fun k => if k = q then true else false⟩) ?_ (fun k hk hkb => ?_) ?_ ?_
      · rw [Below.heap_setCell _ _ _ _ hne]; exact HWb.out.1
      · rw [Below.heap_setCell _ _ _ _ (by show k ≠ wa.heap.size; omega), HWb.out.2.2.1 k (by omega) hkb]; exact HW1.out.2.1 k hkb
      · refine Or.inr ⟨rfl, wa.heap.size, by rw [HPP.out], by have := H0.out.low.size; omega, ?_⟩
        rw [heap_setCell_same _ _ _ _ _ _ HWb.out.2.1, bsC_set, HPP.out]
      · exact HWb.out.2.2.2.setCell (p := ⟨wa.heap.size, q, none⟩) (by have := H0.out.low.size; show w0.heap.size ≤ wa.heap.size; omega) _
    clear HW1 HWb H0 HPP hm
    go_wp2
    go_end0
    exact ⟨rfl, _, HF.out⟩
set_option maxRecDepth 10000 in
set_option maxHeartbeats 2000000 in
theorem dends_old (h : Dt w0 w p c s sx sy x y se M st) (q : Nat) (hq : q < c.planes.toNat) (n i j : Int) (ha : (!M.ends.found || decide (M.ends.score < n)) = false) :
    Calls Tryz.prog 40 #[.pointer (some ⟨p.b, 0, none⟩), .int .i64 (q : Int), .int .i64 n, .int .i64 i, .int .i64 j] w (EndPost w0 p c s sx sy x y M (endB M.ends q i j n) st) := by
  have hf : M.ends.found = true := by cases hh : M.ends.found <;> simp_all
  have hs : ¬ M.ends.score < n := by simp [hf] at ha; omega
  have HE : Hid (endB M.ends q i j n = if M.ends.score = n ∧ M.ends.i = i ∧ M.ends.j = j then ⟨M.ends.found, M.ends.score, M.ends.i, M.ends.j, fun k => if k = q then true else M.ends.planes k⟩ else M.ends) := by show _ = _; simp only [endB, ha, Bool.false_eq_true, if_false]
  obtain ⟨eb, hse, heb, hrow⟩ : ∃ eb, se = ⟨some ⟨eb, 0, none⟩, c.planes.toNat, c.planes.toNat⟩ ∧ w0.heap.size ≤ eb ∧ w.heap[eb]? = some (.cells (bsC M.ends.planes c.planes.toNat) 4 (0, 0)) := by
    rcases h.ends with ⟨h1, _⟩ | ⟨_, eb, h2⟩
    · rw [hf] at h1; cases h1
    · exact ⟨eb, h2⟩
  have c13 := h.cell 13 (v := .bool M.ends.found) rfl
  rw [hf] at c13
  have c14 := h.cell 14 (v := .int .i64 M.ends.score) rfl
  have c15 := h.cell 15 (v := .int .i64 M.ends.i) rfl
  have c16 := h.cell 16 (v := .int .i64 M.ends.j) rfl
  have c17 := h.cell 17 (v := .slice se.a se.n se.c) rfl
  rw [hse] at c17
  simp only at c17
  have H0 : Hid (Dt w0 w p c s sx sy x y se M st) := h
  have e0 := cell_block hrow q (.bool (M.ends.planes q)) (bsC_get _ _ hq)
  have ef : w.frozen? ⟨eb, q, none⟩ = false := frozen_of_row _ _ q _ _ hrow
  have HF : Hid (Dt w0 (w.setCell ⟨eb, q, none⟩ (.bool true)) p c s sx sy x y se { M with ends := ⟨M.ends.found, M.ends.score, M.ends.i, M.ends.j, fun k => if k = q then true else M.ends.planes k⟩ } st) := by
    have hbe := ty_ne h.box hrow (by decide)
    refine ⟨?_, ?_, h.oq, fun r hr => ?_, ?_, Or.inr ⟨hf, eb, hse, heb, ?_⟩, h.inj, h.rg, h.cd, h.hx, h.hy, h.low.setCell (p := ⟨eb, q, none⟩) heb _, h.le⟩
    · rw [Below.heap_setCell _ _ _ _ hbe]; exact h.box
    · rw [Below.heap_setCell _ _ _ _ (ty_ne h.out hrow (by decide))]; exact h.out
    · rw [Below.heap_setCell _ _ _ _ (ty_ne (h.row r hr) hrow (by decide))]; exact h.row r hr
    · rw [Below.heap_setCell _ _ _ _ (ty_ne h.reg hrow (by decide))]; exact h.reg
    · rw [heap_setCell_same _ _ _ _ _ _ hrow, bsC_set]
  have hqi : (q : Int) < (c.planes.toNat : Int) := by omega
  clear h hrow hse heb ha
  obtain ⟨P, hPP⟩ : ∃ P, c.planes.toNat = P := ⟨_, rfl⟩
  rw [hPP] at c17 hqi
  clear hPP hq
  by_cases h0 : n < M.ends.score
  · have d0 : decide (n < M.ends.score) = true := by simpa using h0
    have HG : Hid (endB M.ends q i j n = M.ends) := by show _ = _; rw [HE.out, if_neg (fun t => by omega)]
    clear h0 hs hf HE HF
    go_enter Tryz.func40, Tryz.ntmps40
    go_wp2
    go_end0
    exact ⟨rfl, _, H0.out.same HG.out⟩
  have d0 : decide (n < M.ends.score) = false := by simpa using h0
  have d1 : decide (M.ends.score < n) = false := by simpa using hs
  have h1 : M.ends.score = n := by omega
  by_cases h2 : M.ends.i = i
  · have b2 : (M.ends.i == i) = true := by simpa using h2
    by_cases h3 : M.ends.j = j
    · have b3 : (M.ends.j == j) = true := by simpa using h3
      have HG : Hid (endB M.ends q i j n = ⟨M.ends.found, M.ends.score, M.ends.i, M.ends.j, fun k => if k = q then true else M.ends.planes k⟩) := by show _ = _; rw [HE.out, if_pos ⟨h1, h2, h3⟩]
      clear h0 h1 h2 h3 hs hf HE H0
      unfold EndPost
      rw [HG.out]
      go_enter Tryz.func40, Tryz.ntmps40
      go_wp2
      go_end0
      exact ⟨rfl, _, HF.out⟩
    · have b3 : (M.ends.j == j) = false := by simpa using h3
      have HG : Hid (endB M.ends q i j n = M.ends) := by show _ = _; rw [HE.out, if_neg (fun t => h3 t.2.2)]
      clear h0 h1 h2 h3 hs hf HE HF
      go_enter Tryz.func40, Tryz.ntmps40
      go_wp2
      go_end0
      exact ⟨rfl, _, H0.out.same HG.out⟩
  · have b2 : (M.ends.i == i) = false := by simpa using h2
    have HG : Hid (endB M.ends q i j n = M.ends) := by show _ = _; rw [HE.out, if_neg (fun t => h2 t.2.1)]
    clear h0 h1 h2 hs hf HE HF
    go_enter Tryz.func40, Tryz.ntmps40
    go_wp2
    go_end0
    exact ⟨rfl, _, H0.out.same HG.out⟩
theorem dends_calls (h : Dt w0 w p c s sx sy x y se M st) (hP : c.planes.toNat ≤ 10) (q : Nat) (hq : q < c.planes.toNat) (n i j : Int) :
    Calls Tryz.prog 40 #[.pointer (some ⟨p.b, 0, none⟩), .int .i64 (q : Int), .int .i64 n, .int .i64 i, .int .i64 j] w (EndPost w0 p c s sx sy x y M (endB M.ends q i j n) st) := by
  cases ha : (!M.ends.found || decide (M.ends.score < n)) with
  | true => exact dends_new h hP q hq n i j ha
  | false => exact dends_old h q hq n i j ha
end

end Go.Proofs.YtnkfibahkmmnpaaGreat
