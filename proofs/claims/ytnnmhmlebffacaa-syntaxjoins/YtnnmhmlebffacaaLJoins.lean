/-
  SyntaxJoins is proved for every input: of two sources that are taken, one behind the other, the items are those of both. No condition.
-/
import Derived.Test.YtnnmhmlebffacaaRows
import Derived.Test.YtnnmhmlebffacaaCat
import Derived.Test.YtnnmhmlebffacaaJoinM
import Derived.WalkKit
import Derived.ProofKit
import Derived.OpenShut
import Derived.ShutString
import Derived.ChangeOld
import Derived.Below
namespace Go.Proofs.Ytnnmhmlebffacaa
open Go.RowKit Go.Deep

theorem parse_long {S : List UInt8} (h : (parseW S).2.1 = 0) : S.length ≤ 4000 := (scan_good (parse_scan h).1).1
set_option maxRecDepth 20000 in
set_option maxHeartbeats 8000000 in
theorem joins_walk (s : ByteArray) (t : ByteArray) (w : World) (hs0 : s.size ≤ maxLen) (ht0 : t.size ≤ maxLen) :
    Calls Try.prog 7 #[.string s, .string t] w fun e w' => e = .returned (.bool true) ∧ Below w.heap.size w w' := by
  have HA : Hid (∀ w, Calls Try.prog 13 #[] w fun e w' => e = .returned (.bool true) ∧ Below w.heap.size w w') := fun w => awake_calls w
  have HP1 : Hid (∀ w, Calls Try.prog 9 #[.string s] w fun e w' => TreePost (parseW s.data.toList) w e w') := fun w => parse_calls s w
  have HP2 : Hid (∀ w, Calls Try.prog 9 #[.string t] w fun e w' => TreePost (parseW t.data.toList) w e w') := fun w => parse_calls t w
  unfold maxLen at hs0 ht0
  have hg1 : (parseW s.data.toList).2.1 = 0 → s.size ≤ 4000 := fun h => by have := parse_long h; rwa [size_toList] at this
  have hg2 : (parseW t.data.toList).2.1 = 0 → t.size ≤ 4000 := fun h => by have := parse_long h; rwa [size_toList] at this
  have hjn : s.size + t.size + 1 ≤ 4000 → (parseW s.data.toList).2.1 = 0 → (parseW t.data.toList).2.1 = 0 → (parseW s.data.toList).1.length + (parseW t.data.toList).1.length ≤ 100 →
      (parseW (s.data.toList ++ 10 :: t.data.toList)).2.1 = 0 ∧ sameI (parseW (s.data.toList ++ 10 :: t.data.toList)).1 ((parseW s.data.toList).1 ++ (parseW t.data.toList).1) = true := fun h h1 h2 h3 => parse_join (by rw [size_toList, size_toList]; exact h) h1 h2 h3
  generalize parseW s.data.toList = R1 at *
  generalize parseW t.data.toList = R2 at *
  obtain ⟨L1, x1, y1⟩ := R1
  obtain ⟨L2, x2, y2⟩ := R2
  simp only at hg1 hg2 hjn
  by_cases hmain : x1 = 0 ∧ x2 = 0 ∧ L1.length + L2.length ≤ 100 ∧ s.size + t.size + 1 ≤ 4000
  · obtain ⟨rfl, rfl, h100, h4000⟩ := hmain
    obtain ⟨hj1, hj2⟩ := hjn h4000 rfl rfl h100
    have hs4 := hg1 rfl
    have ht4 := hg2 rfl
    obtain ⟨cA, dA, nA, eA⟩ := cat_var s ⟨#[10]⟩ (by rw [show (⟨#[10]⟩ : ByteArray).size = 1 from rfl]; omega)
    have nA' : cA.size = s.size + 1 := by rw [nA]; rfl
    obtain ⟨cB, dB, nB, eB⟩ := cat_var cA t (by omega)
    have HP3 : Hid (∀ w, Calls Try.prog 9 #[.string cB] w fun e w' => TreePost (parseW (s.data.toList ++ 10 :: t.data.toList)) w e w') := fun w => by
      have h := parse_calls cB w
      rw [dB, dA, show (⟨#[10]⟩ : ByteArray).data.toList = [10] from rfl, List.append_assoc] at h
      exact h
    generalize parseW (s.data.toList ++ 10 :: t.data.toList) = R3 at *
    obtain ⟨L3, x3, y3⟩ := R3
    simp only at hj1 hj2
    subst hj1
    have HJ : Hid (sameI L3 (L1 ++ L2) = true) := hj2
    have q1 : ((0 : Int) != 0) = false := rfl
    have q3 : decide ((100 : Int) < (L1.length : Int) + (L2.length : Int)) = false := by simp; omega
    have q4 : decide ((4000 : Int) < (s.size : Int) + (t.size : Int) + 1) = false := by simp; omega
    clear hjn hg1 hg2 hj2 dA dB nA nB
    go_enter Try.func7, Try.ntmps7
    go_wp2_with fail
    refine (HA.out _).mono ?_
    rintro e w1 ⟨rfl, hb1⟩
    have HB1 : Hid (Below w.heap.size w w1) := hb1
    clear hb1
    go_wp2_with fail
    refine (HP1.out _).mono ?_
    rintro e w2 ⟨a1, n1, c1, rfl, hn1, hI1, hb2⟩
    simp only at hI1
    have hl1 := itsAt_len hI1
    subst hl1
    have HB2 : Hid (Below w.heap.size w w2) := HB1.out.trans (hb2.mono HB1.out.size)
    have HI1 : Hid (ItsAt true (fun g => w1.heap.size ≤ g) w2 L1 a1 L1.length) := hI1
    clear hI1 hb2 HB1
    simp only
    go_wp2_with fail
    refine (HP2.out _).mono ?_
    rintro e w3 ⟨a2, n2, c2, rfl, hn2, hI2, hb3⟩
    simp only at hI2
    have hl2 := itsAt_len hI2
    subst hl2
    have hsz : ((w2.alloc (.cells #[.slice a1 L1.length c1] 24)).alloc (.cells #[.int .i64 0, .int .i64 y1] 27)).heap.size = w2.heap.size + 2 := by simp
    have h22 : Below w2.heap.size w2 ((w2.alloc (.cells #[.slice a1 L1.length c1] 24)).alloc (.cells #[.int .i64 0, .int .i64 y1] 27)) := ((Below.refl _ _).alloc (Nat.le_refl _) _).alloc (by simp) _
    have h23 : Below w2.heap.size w2 w3 := h22.trans (hb3.mono (by rw [hsz]; omega))
    have h6 : w3.heap[w2.heap.size]? = some (.cells #[.slice a1 L1.length c1] 24 (0, 0)) := by
      rw [hb3.block _ (by rw [hsz]; omega)]; exact heap_old (heap_alloc_new w2 _)
    have h7 : w3.heap[w2.heap.size + 1]? = some (.cells #[.int .i64 0, .int .i64 y1] 27 (0, 0)) := by
      rw [hb3.block _ (by rw [hsz]; omega)]
      have := heap_alloc_new (w2.alloc (.cells #[.slice a1 L1.length c1] 24)) (.cells #[.int .i64 0, .int .i64 y1] 27)
      rwa [show (w2.alloc (.cells #[.slice a1 L1.length c1] 24)).heap.size = w2.heap.size + 1 by simp] at this
    have hW4 : ∀ o o', Below w3.heap.size w3 ((w3.alloc o).alloc o') := fun o o' => ((Below.refl _ _).alloc (Nat.le_refl _) o).alloc (by simp) o'
    have A6 := fun o o' => keepc (hW4 o o') (blk (i := 0) h6 rfl)
    have A7 := fun o o' => keepc (hW4 o o') (blk (i := 0) h7 rfl)
    have HB4 : Hid (∀ o o', Below w.heap.size w ((w3.alloc o).alloc o')) := fun o o' => by
      have h1 := HB2.out.trans (h23.mono HB2.out.size)
      exact h1.trans ((hW4 o o').mono h1.size)
    have hwle : w.heap.size ≤ w2.heap.size := HB2.out.size
    have HI1' : Hid (ItsAt true (fun g => w1.heap.size ≤ g) w3 L1 a1 L1.length) := HI1.out.below h23
    have HI2 : Hid (ItsAt true (fun g => ((w2.alloc (.cells #[.slice a1 L1.length c1] 24)).alloc (.cells #[.int .i64 0, .int .i64 y1] 27)).heap.size ≤ g) w3 L2 a2 L2.length) := hI2
    have H6 : Hid (w3.heap[w2.heap.size]? = some (.cells #[.slice a1 L1.length c1] 24 (0, 0))) := h6
    clear hb3 hsz h22 h23 h6 h7 hW4 hI2 HI1 HB2
    simp only
    go_wp2_with fail
    refine (HP3.out _).mono ?_
    rintro e w5 ⟨a3, n3, c3, rfl, hn3, hI3, hb5⟩
    simp only at hI3
    have hl3 := itsAt_len hI3
    subst hl3
    have hs4' : ((w3.alloc (.cells #[.slice a2 L2.length c2] 24)).alloc (.cells #[.int .i64 0, .int .i64 y2] 27)).heap.size = w3.heap.size + 2 := by simp
    have h33 : Below w3.heap.size w3 ((w3.alloc (.cells #[.slice a2 L2.length c2] 24)).alloc (.cells #[.int .i64 0, .int .i64 y2] 27)) := ((Below.refl _ _).alloc (Nat.le_refl _) _).alloc (by simp) _
    have h35 : Below w3.heap.size w3 w5 := h33.trans (hb5.mono (by rw [hs4']; omega))
    have k6 : w5.heap[w2.heap.size]? = some (.cells #[.slice a1 L1.length c1] 24 (0, 0)) := by rw [h35.block _ (lt_block H6.out)]; exact H6.out
    have k8 : w5.heap[w3.heap.size]? = some (.cells #[.slice a2 L2.length c2] 24 (0, 0)) := by
      rw [hb5.block _ (by rw [hs4']; omega)]; exact heap_old (heap_alloc_new w3 _)
    -- the world with the three new variables
    generalize hW6 : ((w5.alloc (.cells #[.slice a3 L3.length c3] 24)).alloc (.cells #[.int .i64 0, .int .i64 y3] 27)).alloc (.cells #[.slice none 0 0] 24) = W6
    have hB56 : Below w5.heap.size w5 W6 := by rw [← hW6]; exact (((Below.refl _ _).alloc (Nat.le_refl _) _).alloc (by simp) _).alloc (by simp; omega) _
    have hz6 : W6.heap.size = w5.heap.size + 3 := by rw [← hW6]; simp
    have j6 : W6.heap[w2.heap.size]? = some (.cells #[.slice a1 L1.length c1] 24 (0, 0)) := by rw [hB56.block _ (lt_block k6)]; exact k6
    have j8 : W6.heap[w3.heap.size]? = some (.cells #[.slice a2 L2.length c2] 24 (0, 0)) := by rw [hB56.block _ (lt_block k8)]; exact k8
    have j10 : W6.heap[w5.heap.size]? = some (.cells #[.slice a3 L3.length c3] 24 (0, 0)) := by rw [← hW6]; exact heap_old (heap_old (heap_alloc_new w5 _))
    have j11 : W6.heap[w5.heap.size + 1]? = some (.cells #[.int .i64 0, .int .i64 y3] 27 (0, 0)) := by
      rw [← hW6]
      have := heap_alloc_new (w5.alloc (.cells #[.slice a3 L3.length c3] 24)) (.cells #[.int .i64 0, .int .i64 y3] 27)
      rw [show (w5.alloc (.cells #[.slice a3 L3.length c3] 24)).heap.size = w5.heap.size + 1 by simp] at this
      exact heap_old this
    have j12 : W6.heap[w5.heap.size + 1 + 1]? = some (.cells #[.slice none 0 0] 24 (0, 0)) := by
      rw [← hW6]
      have := heap_alloc_new ((w5.alloc (.cells #[.slice a3 L3.length c3] 24)).alloc (.cells #[.int .i64 0, .int .i64 y3] 27)) (.cells #[.slice none 0 0] 24)
      rwa [show ((w5.alloc (.cells #[.slice a3 L3.length c3] 24)).alloc (.cells #[.int .i64 0, .int .i64 y3] 27)).heap.size = w5.heap.size + 1 + 1 by simp] at this
    have hI1w := (HI1'.out.below h35).base (S' := fun g => g < w5.heap.size) fun g hg _ => hg
    have hI2w := (HI2.out.below h35).base (S' := fun g => g < w5.heap.size) fun g hg _ => hg
    have hI3w := hI3.base (S' := fun g => g < w5.heap.size) fun g hg _ => hg
    obtain ⟨xs1, hx1, hsrc1, hat1⟩ := its_src (hI1w.below hB56)
    obtain ⟨xs2, hx2, hsrc2, hat2⟩ := its_src (hI2w.below hB56)
    have hxl1 : xs1.length = L1.length := by rw [← hx1, List.length_map]
    have hxl2 : xs2.length = L2.length := by rw [← hx2, List.length_map]
    have HLow : Hid (Below w.heap.size w W6) := by
      have h1 := HB4.out (.cells #[.slice a2 L2.length c2] 24) (.cells #[.int .i64 0, .int .i64 y2] 27)
      have h2 := h1.trans (hb5.mono h1.size)
      exact h2.trans (hB56.mono h2.size)
    have hlt2 : w2.heap.size < w5.heap.size := lt_block k6
    have hlt3 : w3.heap.size < w5.heap.size := lt_block k8
    have HSr2 : Hid (∀ W, Kp (w5.heap.size + 1 + 1) W6 W → SrcAt W a2 L2.length 4 (iRow xs2)) := fun W hW => hsrc2 W fun g h1 h2 => hW.block g h1 (by have h3 : g < w5.heap.size := h2; omega)
    have HSr1 : Hid (SrcAt W6 a1 L1.length 4 (iRow xs1)) := hsrc1 W6 fun g _ _ => rfl
    have HAt : Hid ((∀ x ∈ xs1 ++ xs2, IsAt true (fun g => g < w5.heap.size) W6 x) ∧ (xs1 ++ xs2).map (·.1) = L1 ++ L2 ∧ ItsAt true (fun g => g < w5.heap.size) W6 L3 a3 L3.length) := by
      refine ⟨fun x hx => ?_, by rw [List.map_append, hx1, hx2], hI3w.below hB56⟩
      rcases List.mem_append.1 hx with h | h
      · exact hat1 x h
      · exact hat2 x h
    have HJs : Hid (W6.heap[w2.heap.size]? = some (.cells #[.slice a1 L1.length c1] 24 (0, 0)) ∧ W6.heap[w3.heap.size]? = some (.cells #[.slice a2 L2.length c2] 24 (0, 0)) ∧ W6.heap[w5.heap.size]? = some (.cells #[.slice a3 L3.length c3] 24 (0, 0)) ∧ W6.heap[w5.heap.size + 1]? = some (.cells #[.int .i64 0, .int .i64 y3] 27 (0, 0)) ∧ W6.heap[w5.heap.size + 1 + 1]? = some (.cells #[.slice none 0 0] 24 (0, 0)) ∧ W6.heap.size = w5.heap.size + 3) := ⟨j6, j8, j10, j11, j12, hz6⟩
    have hB3 : ∀ o o' o'', Below w5.heap.size w5 (((w5.alloc o).alloc o').alloc o'') := fun o o' o'' => (((Below.refl _ _).alloc (Nat.le_refl _) _).alloc (by simp) _).alloc (by simp; omega) _
    have t6 := fun o o' o'' => keepc (hB3 o o' o'') (blk (i := 0) k6 rfl)
    obtain ⟨i0, hi, hz0, hz1, hz2⟩ := info_parts info42
    have hnil := World.ownsRow_nil W6 W6.heap.size 42 4
    have HNil : Hid (W6.ownsRow W6.heap.size 42 4 (.slice none 0 0) 0 []) := hnil
    have HW6 : Hid (((w5.alloc (.cells #[.slice a3 L3.length c3] 24)).alloc (.cells #[.int .i64 0, .int .i64 y3] 27)).alloc (.cells #[.slice none 0 0] 24) = W6) := hW6
    clear hb5 hs4' h33 h35 k6 k8 hB56 j6 j8 j10 j11 j12 hI1w hI2w hI3w hsrc1 hsrc2 hat1 hat2 hnil HI1' HI2 H6 hI3 hx1 hx2 HB4 hz6 hW6 HP3 A6 A7 hB3
    have HTa : Hid (∀ W, W6.grownBy W none → W.cell? ⟨w5.heap.size + 1 + 1, 0, none⟩ = some (.slice none 0 0) ∧ W.frozen? ⟨w5.heap.size + 1 + 1, 0, none⟩ = false ∧ W.cell? ⟨w3.heap.size, 0, none⟩ = some (.slice a2 L2.length c2) ∧ W.heap[w5.heap.size + 1 + 1]? = some (.cells #[.slice none 0 0] 24 (0, 0))) := fun W hW => by
      obtain ⟨_, j8, _, _, j12, _⟩ := HJs.out
      have u12 : W.heap[w5.heap.size + 1 + 1]? = some (.cells #[.slice none 0 0] 24 (0, 0)) := by rw [hW.block _ (lt_block j12) (by intro e; cases e)]; exact j12
      have u8 : W.heap[w3.heap.size]? = some (.cells #[.slice a2 L2.length c2] 24 (0, 0)) := by rw [hW.block _ (lt_block j8) (by intro e; cases e)]; exact j8
      exact ⟨blk u12 rfl, blkf 0 u12, blk u8 rfl, u12⟩
    have hne8 : ¬ w3.heap.size = w5.heap.size + 1 + 1 := by omega
    simp only
    go_wp2_with (first
      | (at_builtin; (refine wpList_append_opt rfl _ _ 22 rfl W6.heap.size 42 i0 (.agg #[.int .i64 0, .string ByteArray.empty, .slice none 0 0, .int .i64 0]) 4 56 Try.underlying22 hi hz0 hz1 hz2 rfl (by decide) (.slice none 0 0) 0 [] rfl (by rw [HW6.out]; exact HNil.out) a1 L1.length c1 (iRow xs1) rfl (by rw [HW6.out]; exact HSr1.out) (by unfold maxLen; omega) (by omega) (by rw [HW6.out]; exact Nat.le_refl _) ?_); intro v6 w7 hown6 hgr6; rw [List.nil_append, Nat.zero_add] at hown6; rw [HW6.out] at hgr6; obtain ⟨ao6, cap6, rfl⟩ := owned_shape hown6; obtain ⟨t12, t12f, t8, u12'⟩ := HTa.out _ hgr6; have HO6 : Hid (w7.ownsRow W6.heap.size 42 4 (.slice ao6 L1.length cap6) L1.length (iRow xs1) ∧ W6.grownBy w7 none ∧ w7.heap[w5.heap.size + 1 + 1]? = some (.cells #[.slice none 0 0] 24 (0, 0))) := ⟨hown6, hgr6, u12'⟩; clear hown6 hgr6 u12'
         obtain ⟨hown6, hgr6, u12⟩ := HO6.out
         have hk7 : Kp (w5.heap.size + 1 + 1) W6 w7 := (Kp.refl _ _).grown hgr6 (fun k hk => by cases hk)
         have HO7 : Hid ((w7.setCell ⟨w5.heap.size + 1 + 1, 0, none⟩ (.slice ao6 L1.length cap6)).ownsRow W6.heap.size 42 4 (.slice ao6 L1.length cap6) L1.length (iRow xs1)) := owned_setOther hown6 u12 (by decide) _
         have HK7 : Hid (Kp (w5.heap.size + 1 + 1) W6 (w7.setCell ⟨w5.heap.size + 1 + 1, 0, none⟩ (.slice ao6 L1.length cap6))) := hk7.setCell 0 _
         have HS7 : Hid (SrcAt (w7.setCell ⟨w5.heap.size + 1 + 1, 0, none⟩ (.slice ao6 L1.length cap6)) a2 L2.length 4 (iRow xs2)) := HSr2.out _ HK7.out
         have H12 : Hid ((w7.setCell ⟨w5.heap.size + 1 + 1, 0, none⟩ (.slice ao6 L1.length cap6)).heap[w5.heap.size + 1 + 1]? = some (.cells #[.slice ao6 L1.length cap6] 24 (0, 0))) := heap_put u12 rfl
         have hz7 : Hid (W6.heap.size ≤ (w7.setCell ⟨w5.heap.size + 1 + 1, 0, none⟩ (.slice ao6 L1.length cap6)).heap.size) := HK7.out.size
         have HTb : Hid (∀ W, (w7.setCell ⟨w5.heap.size + 1 + 1, 0, none⟩ (.slice ao6 L1.length cap6)).grownBy W (Value.slice ao6 L1.length cap6).ownBlock → W.cell? ⟨w5.heap.size + 1 + 1, 0, none⟩ = some (.slice ao6 L1.length cap6) ∧ W.frozen? ⟨w5.heap.size + 1 + 1, 0, none⟩ = false ∧ W.heap[w5.heap.size + 1 + 1]? = some (.cells #[.slice ao6 L1.length cap6] 24 (0, 0)) ∧ W.cell? ⟨w5.heap.size, 0, none⟩ = some (.slice a3 L3.length c3)) := fun W hW => by
           obtain ⟨_, _, _, _, _, hz6⟩ := HJs.out
           have v12 : W.heap[w5.heap.size + 1 + 1]? = some (.cells #[.slice ao6 L1.length cap6] 24 (0, 0)) := by rw [hW.block _ (lt_block H12.out) (fun e => by have := (HO7.out.lt _ e.symm).1; omega)]; exact H12.out
           exact ⟨blk v12 rfl, blkf 0 v12, v12, (HK7.out.grown hW (fun k hk => (HO7.out.lt k hk).1)).cell (p := ⟨w5.heap.size, 0, none⟩) (by show w5.heap.size ≠ w5.heap.size + 1 + 1; omega) (blk HJs.out.2.2.1 rfl)⟩
         clear hown6 hgr6 hk7 u12 HNil HSr1 HSr2 t6 HO6 HTa)
      | (at_builtin; (refine wpList_append_opt rfl _ _ 22 rfl W6.heap.size 42 i0 (.agg #[.int .i64 0, .string ByteArray.empty, .slice none 0 0, .int .i64 0]) 4 56 Try.underlying22 hi hz0 hz1 hz2 rfl (by decide) (.slice ao6 L1.length cap6) L1.length (iRow xs1) rfl HO7.out a2 L2.length c2 (iRow xs2) rfl HS7.out (by unfold maxLen; omega) (by omega) hz7.out ?_); intro v8 w8 hown8 hgr8; obtain ⟨ao8, cap8, rfl⟩ := owned_shape hown8; obtain ⟨s12, s12f, v12', s10⟩ := HTb.out _ hgr8; have HO8 : Hid (w8.ownsRow W6.heap.size 42 4 (.slice ao8 (L1.length + L2.length) cap8) (L1.length + L2.length) (iRow xs1 ++ iRow xs2) ∧ (w7.setCell ⟨w5.heap.size + 1 + 1, 0, none⟩ (.slice ao6 L1.length cap6)).grownBy w8 (Value.slice ao6 L1.length cap6).ownBlock ∧ w8.heap[w5.heap.size + 1 + 1]? = some (.cells #[.slice ao6 L1.length cap6] 24 (0, 0))) := ⟨hown8, hgr8, v12'⟩; clear hown8 hgr8 v12'))
    obtain ⟨hown8, hgr8, v12⟩ := HO8.out
    have hk8 : Kp (w5.heap.size + 1 + 1) W6 w8 := HK7.out.grown hgr8 (fun k hk => (HO7.out.lt k hk).1)
    obtain ⟨j6, j8, j10, j11, j12, hz6⟩ := HJs.out
    rw [show iRow xs1 ++ iRow xs2 = iRow (xs1 ++ xs2) by simp [iRow]] at hown8
    have hK9 : Kp (w5.heap.size + 1 + 1) W6 (w8.setCell ⟨w5.heap.size + 1 + 1, 0, none⟩ (.slice ao8 (L1.length + L2.length) cap8)) := hk8.setCell 0 _
    have hO9 : (w8.setCell ⟨w5.heap.size + 1 + 1, 0, none⟩ (.slice ao8 (L1.length + L2.length) cap8)).ownsRow W6.heap.size 42 4 (.slice ao8 (L1.length + L2.length) cap8) (L1.length + L2.length) (iRow (xs1 ++ xs2)) := owned_setOther hown8 v12 (by decide) _
    have h10 : (w8.setCell ⟨w5.heap.size + 1 + 1, 0, none⟩ (.slice ao8 (L1.length + L2.length) cap8)).heap[w5.heap.size]? = some (.cells #[.slice a3 L3.length c3] 24 (0, 0)) := by rw [hK9.block _ (lt_block j10) (by omega)]; exact j10
    have h11 : (w8.setCell ⟨w5.heap.size + 1 + 1, 0, none⟩ (.slice ao8 (L1.length + L2.length) cap8)).heap[w5.heap.size + 1]? = some (.cells #[.int .i64 0, .int .i64 y3] 27 (0, 0)) := by rw [hK9.block _ (lt_block j11) (by omega)]; exact j11
    have h12 : (w8.setCell ⟨w5.heap.size + 1 + 1, 0, none⟩ (.slice ao8 (L1.length + L2.length) cap8)).heap[w5.heap.size + 1 + 1]? = some (.cells #[.slice ao8 (L1.length + L2.length) cap8] 24 (0, 0)) := heap_put v12 rfl
    have hL3 : ItsAt true (fun g => g < w5.heap.size) (w8.setCell ⟨w5.heap.size + 1 + 1, 0, none⟩ (.slice ao8 (L1.length + L2.length) cap8)) L3 a3 L3.length := itsAt_keep (fun g h1 h2 => hK9.block g h1 (by have h3 : g < w5.heap.size := h2; omega)) HAt.out.2.2
    have hWn : ItsAt true (fun _ => True) (w8.setCell ⟨w5.heap.size + 1 + 1, 0, none⟩ (.slice ao8 (L1.length + L2.length) cap8)) (L1 ++ L2) ao8 (L1.length + L2.length) := by
      have h9 := (itsAt_owned (o := true) (S := fun _ => True) (fun _ _ _ => trivial) hO9 fun x hx => (IsAt.keep (HAt.out.1 x hx) fun g h1 h2 => hK9.block g h1 (by have h3 : g < w5.heap.size := h2; omega)).base fun _ _ _ => trivial).1
      rw [HAt.out.2.1] at h9; exact h9
    have HSa : Hid (Calls Try.prog 16 #[.agg #[.slice a3 L3.length c3], .agg #[.slice ao8 (L1.length + L2.length) cap8]] (w8.setCell ⟨w5.heap.size + 1 + 1, 0, none⟩ (.slice ao8 (L1.length + L2.length) cap8)) fun e' w' => e' = .returned (.bool true) ∧ Below (w8.setCell ⟨w5.heap.size + 1 + 1, 0, none⟩ (.slice ao8 (L1.length + L2.length) cap8)).heap.size (w8.setCell ⟨w5.heap.size + 1 + 1, 0, none⟩ (.slice ao8 (L1.length + L2.length) cap8)) w') := by
      have h := same_calls L3 (L1 ++ L2) a3 ao8 L3.length c3 (L1.length + L2.length) cap8 _ true true _ _ hL3 hWn (by unfold maxLen; omega) (by unfold maxLen; omega)
      rw [HJ.out] at h; exact h
    have hlen3 : L3.length = L1.length + L2.length := by
      have h9 := rI_len (a := L3) (b := L1 ++ L2) HJ.out
      rw [List.length_append] at h9; exact h9
    have HB9 : Hid (Below w.heap.size w (w8.setCell ⟨w5.heap.size + 1 + 1, 0, none⟩ (.slice ao8 (L1.length + L2.length) cap8))) := by
      have h1 := HLow.out.size
      exact HLow.out.trans (hK9.below (by omega) h1)
    have HC9 : Hid (∀ W, Below (w8.setCell ⟨w5.heap.size + 1 + 1, 0, none⟩ (.slice ao8 (L1.length + L2.length) cap8)).heap.size (w8.setCell ⟨w5.heap.size + 1 + 1, 0, none⟩ (.slice ao8 (L1.length + L2.length) cap8)) W → W.cell? ⟨w5.heap.size + 1, 0, none⟩ = some (.int .i64 0) ∧ W.cell? ⟨w5.heap.size, 0, none⟩ = some (.slice a3 L3.length c3) ∧ W.cell? ⟨w5.heap.size + 1 + 1, 0, none⟩ = some (.slice ao8 (L1.length + L2.length) cap8)) := fun W hW => ⟨keepc hW (blk h11 rfl), keepc hW (blk h10 rfl), keepc hW (blk h12 rfl)⟩
    have t10 := blk (i := 0) h10 rfl
    have hle : ((L3.length : Int) == ((L1.length + L2.length : Nat) : Int)) = true := by rw [hlen3]; simp
    have hle2 : ((L3.length : Int) == (L1.length : Int) + (L2.length : Int)) = true := by rw [hlen3]; simp
    have hq0 : ((0 : Int) == 0) = true := rfl
    clear hown8 hgr8 hk8 HO8 HTb j6 j8 j10 j11 j12 hz6 v12 hK9 hO9 h10 h11 h12 hL3 hWn HO7 HK7 HS7 H12 hz7 HAt HJs HLow hlen3 HJ
    refine HSa.out.mono ?_
    rintro e w9 ⟨rfl, hb9⟩
    obtain ⟨f11, f10, f12⟩ := HC9.out _ hb9
    have HBz : Hid (Below w.heap.size w w9) := HB9.out.trans (hb9.mono HB9.out.size)
    clear hb9 HC9 HB9 HSa
    go_wp2
    go_ret
    exact ⟨rfl, HBz.out⟩
  · have hq : (x1 != 0) = true ∨ ((x1 != 0) = false ∧ (x2 != 0) = true) ∨ (s.size ≤ 4000 ∧ t.size ≤ 4000 ∧ (x1 != 0) = false ∧ (x2 != 0) = false ∧ decide ((100 : Int) < (L1.length : Int) + (L2.length : Int)) = true) ∨ (s.size ≤ 4000 ∧ t.size ≤ 4000 ∧ (x1 != 0) = false ∧ (x2 != 0) = false ∧ decide ((100 : Int) < (L1.length : Int) + (L2.length : Int)) = false ∧ decide ((4000 : Int) < (s.size : Int) + (t.size : Int) + 1) = true) := by
      by_cases h1 : x1 = 0
      · by_cases h2 : x2 = 0
        · have a1 := hg1 h1
          have a2 := hg2 h2
          by_cases h3 : L1.length + L2.length ≤ 100
          · refine .inr (.inr (.inr ⟨a1, a2, by simp [h1], by simp [h2], by simp; omega, ?_⟩))
            have : ¬ (s.size + t.size + 1 ≤ 4000) := fun h => hmain ⟨h1, h2, h3, h⟩
            simp; omega
          · exact .inr (.inr (.inl ⟨a1, a2, by simp [h1], by simp [h2], by simp; omega⟩))
        · exact .inr (.inl ⟨by simp [h1], by simpa using h2⟩)
      · exact .inl (by simpa using h1)
    clear hmain hg1 hg2 hjn
    rcases hq with q1 | ⟨q1, q2⟩ | ⟨b1, b2, q1, q2, q3⟩ | ⟨b1, b2, q1, q2, q3, q4⟩ <;> (
      go_enter Try.func7, Try.ntmps7
      go_wp2_with fail
      refine (HA.out _).mono ?_
      rintro e w1 ⟨rfl, hb1⟩
      have HB1 : Hid (Below w.heap.size w w1) := hb1
      clear hb1
      go_wp2_with fail
      refine (HP1.out _).mono ?_
      rintro e w2 ⟨a1, n1, c1, rfl, hn1, hI1, hb2⟩
      simp only at hI1
      have hl1 := itsAt_len hI1
      subst hl1
      have HB2 : Hid (Below w.heap.size w w2) := HB1.out.trans (hb2.mono HB1.out.size)
      have HI1 : Hid (ItsAt true (fun g => w1.heap.size ≤ g) w2 L1 a1 L1.length) := hI1
      clear hI1 hb2 HB1
      simp only
      go_wp2_with fail
      refine (HP2.out _).mono ?_
      rintro e w3 ⟨a2, n2, c2, rfl, hn2, hI2, hb3⟩
      simp only at hI2
      have hl2 := itsAt_len hI2
      subst hl2
      have hsz : ((w2.alloc (.cells #[.slice a1 L1.length c1] 24)).alloc (.cells #[.int .i64 x1, .int .i64 y1] 27)).heap.size = w2.heap.size + 2 := by simp
      have h22 : Below w2.heap.size w2 ((w2.alloc (.cells #[.slice a1 L1.length c1] 24)).alloc (.cells #[.int .i64 x1, .int .i64 y1] 27)) := ((Below.refl _ _).alloc (Nat.le_refl _) _).alloc (by simp) _
      have h23 : Below w2.heap.size w2 w3 := h22.trans (hb3.mono (by rw [hsz]; omega))
      have h6 : w3.heap[w2.heap.size]? = some (.cells #[.slice a1 L1.length c1] 24 (0, 0)) := by
        rw [hb3.block _ (by rw [hsz]; omega)]; exact heap_old (heap_alloc_new w2 _)
      have h7 : w3.heap[w2.heap.size + 1]? = some (.cells #[.int .i64 x1, .int .i64 y1] 27 (0, 0)) := by
        rw [hb3.block _ (by rw [hsz]; omega)]
        have := heap_alloc_new (w2.alloc (.cells #[.slice a1 L1.length c1] 24)) (.cells #[.int .i64 x1, .int .i64 y1] 27)
        rwa [show (w2.alloc (.cells #[.slice a1 L1.length c1] 24)).heap.size = w2.heap.size + 1 by simp] at this
      have hW4 : ∀ o o', Below w3.heap.size w3 ((w3.alloc o).alloc o') := fun o o' => ((Below.refl _ _).alloc (Nat.le_refl _) o).alloc (by simp) o'
      have A6 := fun o o' => keepc (hW4 o o') (blk (i := 0) h6 rfl)
      have A7 := fun o o' => keepc (hW4 o o') (blk (i := 0) h7 rfl)
      have HB4 : Hid (∀ o o', Below w.heap.size w ((w3.alloc o).alloc o')) := fun o o' => by
        have h1 := HB2.out.trans (h23.mono HB2.out.size)
        exact h1.trans ((hW4 o o').mono h1.size)
      clear hb3 hsz h22 h23 h6 h7 hW4 hI2 HI1 HB2
      simp only
      go_wp2
      go_ret
      exact ⟨rfl, HB4.out _ _⟩)


namespace syntaxJoins
open Go.ChangeShapes Go.WideShapes Go.ChangeAt Go.RowKit
open Go.ChangeMaps (open_string shut_string)
theorem own : ownKnob Try.prog.godebug = none := by kernel_rfl

set_option maxRecDepth 100000 in
theorem lifted (os : Os) (started : os.Started) (H : Type) (enc : TypeId × Value → H) :
    ReturnsInHanded {} Try.checked os 7 .any (Rows.syntaxJoinsSpec.pre6 enc Try.prog Try.f7 Rows.syntaxJoinsRow.domain false) (Rows.syntaxJoinsSpec.post enc Try.prog Try.f7 false true false false) := by
  refine returnsInHanded_of_change (C := Try.checked) own started (by kernel_rfl) Try.func7
    (ChangeSpec.witness6 (enc := enc) (C := Try.checked) false ⟨#[], #[.string ByteArray.empty, .string ByteArray.empty], []⟩ 8 (by kernel_rfl) (by kernel_rfl) (by kernel_rfl) (by kernel_rfl)) ?_
  intro W base args ds gs before hval0 hW _ _
  have hval : ∀ (j : Nat) t v, Try.f7.params[j]? = some t → args[j]? = some v → Value.okWide Try.prog W .any base t v := hval0
  have hW' := hW
  obtain ⟨p, q, hA0, hV, rfl, hfz, hnd⟩ := hW
  have hA : DataW.TrodAll enc Try.prog W 0 (fun _ => true) true Try.f7.params.toList args.toList ds p := hA0
  rw [Try.params7] at hA hval
  obtain ⟨v0, vs0, d0, ds0, p0, q0, hargs, rfl, rfl, h0, r0⟩ := trodAll_cons hA
  obtain ⟨v1, vs1, d1, ds1, p1, q1, rfl, rfl, rfl, h1, r1⟩ := trodAll_cons r0
  obtain ⟨rfl, rfl, rfl⟩ := trodAll_nil r1
  obtain rfl : args = #[v0, v1] := by cases args; simp_all
  obtain ⟨rfl, rfl⟩ := trodVars_none hV
  obtain ⟨a0, rfl, rfl, rfl, w0⟩ := open_string Try.underlying9 (hval 0 9 v0 rfl rfl) h0
  obtain ⟨a1, rfl, rfl, rfl, w1⟩ := open_string Try.underlying9 (hval 1 9 v1 rfl rfl) h1
  clear hA0 hval0
  refine (joins_walk a0 a1 W w0 w1).mono fun e W' ⟨he, bel⟩ => ?_
  subst he
  exact ⟨_, rfl, _, _, _, [], _, [], hW', trodAll_mk1 (shut_bool Try.underlying4 _), (trodAll_cons_mk (shut_string Try.underlying9 w0) (trodAll_cons_mk (shut_string Try.underlying9 w1) trodAll_mk0)), rfl, bel.frame _, fun h => by cases h⟩
end syntaxJoins

theorem syntaxJoins_holds : Rows.SyntaxJoinsSaid :=
  OpenClaim.holds_of_wide 7 Try.f7 rfl rfl rfl rfl rfl rfl rfl ⟨rfl, rfl, rfl, rfl, rfl⟩ rfl rfl rfl rfl rfl (by kernel_rfl) Try.func7 (by kernel_rfl)
    (of_decide_eq_true (by kernel_rfl)) (by unfold Func.isWrapper; first | (rw [if_pos (by decide +kernel)]; kernel_rfl) | (rw [if_neg (by decide +kernel)]; exact ⟨rfl, rfl⟩))
    (fun os started H enc _ => syntaxJoins.lifted os started H enc)
end Go.Proofs.Ytnnmhmlebffacaa
