/-
  The document's IsText is the program's; what the document's Right asks of an expression. The document's RightExpr, by kinds (1, 4). The document's RightExpr, by kinds (5, 6, 7).
-/
import Derived.Test.YtpeldiibjhffiaaGreatDoorG25
import Derived.Test.YtpeldiibjhffiaaGreatDoorRTr
namespace Go.Proofs.YtpeldiibjhffiaaGreatDoor
open Go.RowKit Go.Deep

theorem innerT_all : ∀ (r : List UInt8), ∀ c ∈ innerB r, c ≠ 34
  | [], c, h => by simp [innerB] at h
  | d :: r, c, h => by
    unfold innerB at h
    rw [List.takeWhile_cons] at h
    split at h
    · rename_i hd
      rcases List.mem_cons.1 h with rfl | h
      · simpa using hd
      · exact innerT_all r c h
    · cases h
theorem innerT_id : ∀ (a : List UInt8), (∀ c ∈ a, c ≠ 34) → innerB (a ++ [34]) = a
  | [], _ => rfl
  | d :: a, h => by
    have h1 := innerT_id a fun c hc => h c (by simp [hc])
    have h2 := h d (by simp)
    unfold innerB at h1 ⊢
    rw [List.cons_append, List.takeWhile_cons, if_pos (by simpa using h2), h1]
theorem txT_of {r : List UInt8} (h : textOk r = true) : txB (innerB r) = true := by
  have hh := h
  unfold textOk at hh
  simp only [Bool.and_eq_true, decide_eq_true_eq] at hh
  have hid := innerT_id (innerB r) (innerT_all r)
  have ht2 : textOk (innerB r ++ [34]) = true := by
    unfold textOk
    rw [hid]
    simp [hh.2.1, hh.2.2]
  generalize innerB r = a at *
  have hq : (34 :: a ++ [34] : List UInt8) = 34 :: (a ++ [34]) := rfl
  have hs : (34 :: a ++ [34] : List UInt8) ≠ [] := by simp
  have he : errB (34 :: a ++ [34]) = 0 := by
    rw [hq, errB, if_neg (by decide), if_neg (by decide), if_pos rfl, if_pos ht2]
  have hl : lenB (34 :: a ++ [34]) = (34 :: a ++ [34]).length := by
    rw [hq, lenB, if_neg (by decide), if_pos rfl, hid]; simp
  have ht : textB (34 :: a ++ [34]) = a := by
    rw [hq, textB, if_neg (by decide), if_neg (by decide), if_pos rfl, hid]
  have hsk : skipB (34 :: a ++ [34]) = 0 := by
    rw [hq]; unfold skipB; rw [skipGo, if_neg (by decide), if_neg (by decide), if_neg (by decide)]
  have hd : (34 :: a ++ [34] : List UInt8).drop (34 :: a ++ [34]).length = [] := List.drop_eq_nil_of_le (Nat.le_refl _)
  have htok : tokB 0 (34 :: a ++ [34]) = ([tkB (34 :: a ++ [34]) 0], 0, 0) := by
    rw [tokB_ok hs he, hl, hd]
    have e0 : skipB ([] : List UInt8) = 0 := rfl
    simp only [e0, Nat.add_zero, hd, tokB_nil]
  have hsc : scanB (34 :: a ++ [34]) = ([tkB (34 :: a ++ [34]) 0, endTk (34 :: a ++ [34]).length], 0, 0) := by
    unfold scanB
    rw [if_neg (by have := hh.2.1; simp; omega), hsk, List.drop_zero, htok]
    rfl
  unfold txB
  rw [hsc]
  simp only [headTx, Bool.and_eq_true, decide_eq_true_eq]
  refine ⟨hh.2.1, by first | rfl | trivial, ?_⟩
  exact decide_eq_true (show textB (34 :: a ++ [34]) = a from ht)
theorem tx_is (s : List UInt8) : isTxtB s = txB s := by
  rw [Bool.eq_iff_iff]
  constructor
  · intro h
    simp only [isTxtB, Bool.and_eq_true, List.all_eq_true, decide_eq_true_eq] at h
    have h34 : ∀ c ∈ s, c ≠ 34 := fun c hc => by
      have := h.1 c hc
      simp only [inText', Bool.and_eq_true, bne_iff_ne] at this
      exact this.2
    have hid := innerT_id s h34
    have ht : textOk (s ++ [34]) = true := by
      unfold textOk
      rw [hid]
      simp only [Bool.and_eq_true, decide_eq_true_eq, List.all_eq_true]
      refine ⟨by simp, h.2, fun c hc => ?_⟩
      have := h.1 c hc
      simp only [inText', Bool.and_eq_true] at this
      exact this.1
    have := txT_of ht
    rw [hid] at this
    exact this
  · intro h
    simp only [txB, Bool.and_eq_true, decide_eq_true_eq] at h
    obtain ⟨h1, h2, h3⟩ := h
    have hq : (34 :: s ++ [34] : List UInt8) = 34 :: (s ++ [34]) := rfl
    rw [hq] at h2 h3
    have hsk : skipB (34 :: (s ++ [34])) = 0 := by unfold skipB; rw [skipGo, if_neg (by decide), if_neg (by decide), if_neg (by decide)]
    have hs : (34 :: (s ++ [34]) : List UInt8) ≠ [] := by simp
    have he : errB (34 :: (s ++ [34])) = 0 := by
      rcases Classical.em (errB (34 :: (s ++ [34])) = 0) with h | h
      · exact h
      · exfalso
        unfold scanB at h2
        rw [if_neg (by simp; omega), hsk, List.drop_zero, tokB_err hs h] at h2
        unfold finB at h2
        rw [if_neg h] at h2
        exact h h2
    have hx : (scanB (34 :: (s ++ [34]))).1 = tkB (34 :: (s ++ [34])) 0 :: ((tokB (0 + lenB (34 :: (s ++ [34])) + skipB ((34 :: (s ++ [34])).drop (lenB (34 :: (s ++ [34]))))) ((34 :: (s ++ [34])).drop (lenB (34 :: (s ++ [34])) + skipB ((34 :: (s ++ [34])).drop (lenB (34 :: (s ++ [34]))))))).1 ++ [endTk (34 :: (s ++ [34])).length]) := by
      unfold scanB at h2 ⊢
      rw [if_neg (by simp; omega), hsk, List.drop_zero, tokB_ok hs he] at h2 ⊢
      unfold finB at h2 ⊢
      split
      · rfl
      · rename_i h0
        rw [if_neg h0] at h2
        exact absurd h2 h0
    rw [hx] at h3
    have ht : textB (34 :: (s ++ [34])) = innerB (s ++ [34]) := by
      rw [textB, if_neg (by decide), if_neg (by decide), if_pos rfl]
    have h4 : innerB (s ++ [34]) = s := by rw [← ht]; exact h3
    obtain ⟨_, hok⟩ := err_text he
    unfold textOk at hok
    simp only [Bool.and_eq_true, decide_eq_true_eq, List.all_eq_true] at hok
    rw [h4] at hok
    have h34 : ∀ c ∈ s, c ≠ 34 := fun c hc => innerT_all (s ++ [34]) c (by rw [h4]; exact hc)
    simp only [isTxtB, Bool.and_eq_true, List.all_eq_true, decide_eq_true_eq]
    refine ⟨fun c hc => ?_, h1⟩
    simp only [inText', Bool.and_eq_true, bne_iff_ne]
    exact ⟨hok.2.2 c hc, h34 c hc⟩
theorem isText_big (s : ByteArray) (w : World) (hs : s.size ≤ 9223372036854775807) :
    Calls Tryz.prog 28 #[.string s] w fun e w' => e = .returned (.bool (isTxtB s.data.toList)) ∧ w' = w := by
  go_enter Tryz.func28, Tryz.ntmps28
  go_wp2
  go_loop [3] (fun i => ∃ k : Nat, k ≤ s.size ∧ i = .int .i64 k ∧ (s.data.toList.take k).all inText' = true) (fun i => s.size - (intOf i).toNat)
  case atStart => exact ⟨0, Nat.zero_le _, rfl, by simp⟩
  case round =>
    obtain ⟨k, hk, rfl, hr⟩ := hrel
    have HR : Hid ((s.data.toList.take k).all inText' = true) := hr
    clear hr
    by_cases hlt : k < s.size
    · have hdk : decide ((k : Int) < (s.size : Int)) = true := by simp; omega
      have HG : Hid (s.data.toList[k]? = some s[k]) := getElem?_at s k hlt
      have hin : inText' s[k] = (!(decide ((s[k].toNat : Int) < 32)) && (!(decide ((126 : Int) < (s[k].toNat : Int))) && !((s[k].toNat : Int) == 34))) := by
        unfold inText' inText
        rw [bne, show (34 : UInt8) = UInt8.ofNat 34 from rfl, beq_byte s[k] 34 (by decide), Bool.eq_iff_iff]
        simp only [Bool.and_eq_true, Bool.not_eq_true', decide_eq_true_eq, decide_eq_false_iff_not, beq_eq_false_iff_ne]
        omega
      cases hc : inText' s[k] with
      | true =>
        have HS : Hid ((s.data.toList.take (k + 1)).all inText' = true) := all_step HG.out HR.out hc
        rw [hc] at hin
        have hin2 := hin.symm
        simp only [Bool.and_eq_true, Bool.not_eq_true'] at hin2
        obtain ⟨h1, h2, h3⟩ := hin2
        clear hin hc HG HR
        go_wp2
        go_round
        case rel => exact ⟨k + 1, by omega, by go_num, HS.out⟩
        case measure => simp [intOf]; omega
      | false =>
        have HE : Hid (isTxtB s.data.toList = false) := by
          show _ = _
          unfold isTxtB; rw [all_no HG.out hc]; rfl
        rw [hc] at hin
        have hq : decide ((s[k].toNat : Int) < 32) = true ∨ (decide ((s[k].toNat : Int) < 32) = false ∧ decide ((126 : Int) < (s[k].toNat : Int)) = true) ∨ (decide ((s[k].toNat : Int) < 32) = false ∧ decide ((126 : Int) < (s[k].toNat : Int)) = false ∧ ((s[k].toNat : Int) == 34) = true) := by
          revert hin
          cases decide ((s[k].toNat : Int) < 32) <;> cases decide ((126 : Int) < (s[k].toNat : Int)) <;> cases ((s[k].toNat : Int) == 34) <;> decide
        clear hin hc HG HR
        rcases hq with h1 | ⟨h1, h2⟩ | ⟨h1, h2, h3⟩ <;> (
          go_wp2
          go_ret
          rw [HE.out]
          exact ⟨rfl, rfl⟩)
    · have hdk : decide ((k : Int) < (s.size : Int)) = false := by simp; omega
      have HE : Hid (isTxtB s.data.toList = decide (s.size ≤ 40)) := by
        have h := HR.out
        rw [List.take_of_length_le (by rw [size_toList]; omega)] at h
        show _ = _
        unfold isTxtB; rw [h, size_toList]; rfl
      clear HR
      go_wp2
      go_ret
      rw [HE.out]
      exact ⟨ret_bool (by first | rfl | (rw [decide_eq_decide]; omega)), rfl⟩
def rgtE (d : Nat) (e : Ex) : Bool := decide (d ≤ 32) && (hdRight e.1 (lenF e.2) && rgtF (32 - d) e.2)
theorem rgtF_cons {d : Nat} (hd : d ≤ 32) (b o : Nat) (h : Hd) (k r : Fo) : rgtF (32 - d) (.node b o h k r) = (rgtE (d + 1) (h, k) && rgtF (32 - d) r) := by
  simp only [rgtF, rgtE]
  rw [show 32 - d - 1 = 32 - (d + 1) by omega, show decide (32 - d ≠ 0) = decide (d + 1 ≤ 32) by rw [decide_eq_decide]; omega]
  simp [Bool.and_assoc]
end Go.Proofs.YtpeldiibjhffiaaGreatDoor
namespace Go.Proofs.YtpeldiibjhffiaaGreatDoor
open Go.RowKit Go.Deep

set_option maxRecDepth 20000 in
set_option maxHeartbeats 8000000 in
theorem rE_1 {o : Bool} {S : Nat → Prop} (N d : Nat) (hd : d ≤ 32) (IH0 : ∀ (e : Ex) (ka : Option Addr) (kn kc : Nat) (w : World), ExAt o S w e ka kn → szF e.2 < N → Calls Tryz.prog 13 #[.agg #[.int .i64 e.1.kind, .int .i64 e.1.num, .string (bs e.1.text), .slice ka kn kc, .int .i64 e.1.pl], .int .i64 ((d : Int) + 1)] w fun e' w' => e' = .returned (.bool (rgtE (d + 1) e)) ∧ Below w.heap.size w w')
    (h : Hd) (F : Fo) (ka : Option Addr) (n c : Nat) (w : World) (hE : ExAt o S w (h, F) ka n) (hN : szF F ≤ N) (hk : h.kind = 1) :
    Calls Tryz.prog 13 #[.agg #[.int .i64 h.kind, .int .i64 h.num, .string (bs h.text), .slice ka n c, .int .i64 h.pl], .int .i64 (d : Int)] w fun e' w' => e' = .returned (.bool (hdRight h n && rgtF (32 - d) F)) ∧ Below w.heap.size w w' := by
  have IH : Hid (∀ (e : Ex) (ka : Option Addr) (kn kc : Nat) (w : World), ExAt o S w e ka kn → szF e.2 < N → Calls Tryz.prog 13 #[.agg #[.int .i64 e.1.kind, .int .i64 e.1.num, .string (bs e.1.text), .slice ka kn kc, .int .i64 e.1.pl], .int .i64 ((d : Int) + 1)] w fun e' w' => e' = .returned (.bool (rgtE (d + 1) e)) ∧ Below w.heap.size w w') := IH0
  have hR : hdRight h n = (!decide (h.num < 0) && (!decide ((72057594037927936 : Int) < h.num) && (((bs h.text).toList == []) && (!decide ((n : Int) < 0) && !decide ((0 : Int) < (n : Int)))))) := by
    have e1 : ((bs h.text).toList == []) = decide (h.text = []) := emptyT _
    rw [e1, Bool.eq_iff_iff]
    unfold hdRight
    rw [hk]
    simp <;> omega
  have hn2 := hE.few
  unfold maxLen at hn2
  have hdd : decide ((32 : Int) < (d : Int)) = false := by simp; omega
  have k1 : (h.kind == 1) = true := by rw [beq_iff_eq]; omega
  have kn1 : (h.kind != 1) = false := by simp [hk]
  have kg3 : decide ((3 : Int) < h.kind) = false := by simp [hk]
  obtain ⟨g, off, hka, hF'⟩ := foAt_addr hE.kids
  have hbx : Below w.heap.size w (w.alloc (.cells #[.int .i64 h.kind, .int .i64 h.num, .string (bs h.text), .slice ka n c, .int .i64 h.pl] 24)) := (Below.refl _ _).alloc (Nat.le_refl _) _
  have HB : Hid (Below w.heap.size w (w.alloc (.cells #[.int .i64 h.kind, .int .i64 h.num, .string (bs h.text), .slice ka n c, .int .i64 h.pl] 24)) ∧ (w.alloc (.cells #[.int .i64 h.kind, .int .i64 h.num, .string (bs h.text), .slice ka n c, .int .i64 h.pl] 24)).heap[w.heap.size]? = some (.cells #[.int .i64 h.kind, .int .i64 h.num, .string (bs h.text), .slice ka n c, .int .i64 h.pl] 24 (0, 0))) := ⟨hbx, heap_alloc_new w _⟩
  clear hk IH0
  cases hX : hdRight h n with
  | false =>
    rw [hX] at hR
    have hw : (decide (h.num < 0) = true ∨ (decide (h.num < 0) = false ∧ (decide ((72057594037927936 : Int) < h.num) = true ∨ (decide ((72057594037927936 : Int) < h.num) = false ∧ (((bs h.text).toList == []) = false ∨ (((bs h.text).toList == []) = true ∧ (decide ((n : Int) < 0) = true ∨ (decide ((n : Int) < 0) = false ∧ decide ((0 : Int) < (n : Int)) = true)))))))) := by
      revert hR
      cases decide (h.num < 0) <;> cases decide ((72057594037927936 : Int) < h.num) <;> cases ((bs h.text).toList == []) <;> cases decide ((n : Int) < 0) <;> cases decide ((0 : Int) < (n : Int)) <;> simp
    clear hX hR IH hE hF' hbx hka
    rw [Bool.false_and]
    rcases hw with q0 | ⟨q0, q1 | ⟨q1, q2 | ⟨q2, q3 | ⟨q3, q4⟩⟩⟩⟩ <;> (
      try (have qz : 0 < n := by simp at q4; omega)
      go_enter Tryz.func13, Tryz.ntmps13
      go_wp2
      go_ret
      exact ⟨rfl, HB.out.1⟩)
  | true =>
    rw [hX] at hR
    have hw : decide (h.num < 0) = false ∧ decide ((72057594037927936 : Int) < h.num) = false ∧ ((bs h.text).toList == []) = true ∧ decide ((n : Int) < 0) = false ∧ decide ((0 : Int) < (n : Int)) = false := by
      revert hR
      cases decide (h.num < 0) <;> cases decide ((72057594037927936 : Int) < h.num) <;> cases ((bs h.text).toList == []) <;> cases decide ((n : Int) < 0) <;> cases decide ((0 : Int) < (n : Int)) <;> simp
    obtain ⟨q0, q1, q2, q3, q4⟩ := hw
    rw [Bool.true_and]
    generalize hD : rgtF (32 - d) F = D
    have HF2 : Hid (FoAt o S (w.alloc (.cells #[.int .i64 h.kind, .int .i64 h.num, .string (bs h.text), .slice ka n c, .int .i64 h.pl] 24)) F (some ⟨g, off + 0 * 5, none⟩) (n - 0) ∧ szF F ≤ N ∧ rgtF (32 - d) F = D ∧ Below w.heap.size w (w.alloc (.cells #[.int .i64 h.kind, .int .i64 h.num, .string (bs h.text), .slice ka n c, .int .i64 h.pl] 24)) ∧ (w.alloc (.cells #[.int .i64 h.kind, .int .i64 h.num, .string (bs h.text), .slice ka n c, .int .i64 h.pl] 24)).heap[w.heap.size]? = some (.cells #[.int .i64 h.kind, .int .i64 h.num, .string (bs h.text), .slice ka n c, .int .i64 h.pl] 24 (0, 0))) := ⟨hF'.below hbx, hN, hD, HB.out⟩
    clear hX hR hE hF' hbx hN hD HB
    have qz : ¬ 0 < n := by simp at q4; omega
    go_enter Tryz.func13, Tryz.ntmps13
    go_wp2_with fail
    go_loopg [9] n (fun k iv wr => ∃ (F' : Fo) (i : Nat), iv = .int .i64 (i : Int) ∧ i + k = n ∧ Hid (FoAt o S wr F' (some ⟨g, off + i * 5, none⟩) (n - i) ∧ szF F' ≤ N ∧ rgtF (32 - d) F' = D ∧ Below w.heap.size w wr ∧ wr.heap[w.heap.size]? = some (.cells #[.int .i64 h.kind, .int .i64 h.num, .string (bs h.text), .slice ka n c, .int .i64 h.pl] 24 (0, 0))))
    case atStart => exact ⟨F, 0, rfl, by omega, HF2.out⟩
    case round =>
      clear HF2
      obtain ⟨F', i, rfl, hik, HT⟩ := hrel
      obtain ⟨v1, v2, v3, v4, v5⟩ := HT.out
      have bk := blk (i := 3) v5 rfl
      by_cases hi : i < n
      · exact absurd (Nat.lt_of_le_of_lt (Nat.zero_le _) hi) qz
      · have hdi : decide ((i : Int) < (n : Int)) = false := by simp; omega
        have HX : Hid (D = true ∧ Below w.heap.size w wr) := by
          rw [show n - i = 0 by omega] at v1
          rw [foAt_end v1] at v3
          exact ⟨v3.symm.trans rfl, v4⟩
        clear HT v1 v2 v3 v4 v5
        go_wp2
        go_ret
        exact ⟨ret_bool HX.out.1.symm, HX.out.2⟩

set_option maxRecDepth 20000 in
set_option maxHeartbeats 8000000 in
theorem rE_4 {o : Bool} {S : Nat → Prop} (N d : Nat) (hd : d ≤ 32) (IH0 : ∀ (e : Ex) (ka : Option Addr) (kn kc : Nat) (w : World), ExAt o S w e ka kn → szF e.2 < N → Calls Tryz.prog 13 #[.agg #[.int .i64 e.1.kind, .int .i64 e.1.num, .string (bs e.1.text), .slice ka kn kc, .int .i64 e.1.pl], .int .i64 ((d : Int) + 1)] w fun e' w' => e' = .returned (.bool (rgtE (d + 1) e)) ∧ Below w.heap.size w w')
    (h : Hd) (F : Fo) (ka : Option Addr) (n c : Nat) (w : World) (hE : ExAt o S w (h, F) ka n) (hN : szF F ≤ N) (hk : h.kind = 4) :
    Calls Tryz.prog 13 #[.agg #[.int .i64 h.kind, .int .i64 h.num, .string (bs h.text), .slice ka n c, .int .i64 h.pl], .int .i64 (d : Int)] w fun e' w' => e' = .returned (.bool (hdRight h n && rgtF (32 - d) F)) ∧ Below w.heap.size w w' := by
  have IH : Hid (∀ (e : Ex) (ka : Option Addr) (kn kc : Nat) (w : World), ExAt o S w e ka kn → szF e.2 < N → Calls Tryz.prog 13 #[.agg #[.int .i64 e.1.kind, .int .i64 e.1.num, .string (bs e.1.text), .slice ka kn kc, .int .i64 e.1.pl], .int .i64 ((d : Int) + 1)] w fun e' w' => e' = .returned (.bool (rgtE (d + 1) e)) ∧ Below w.heap.size w w') := IH0
  have hR : hdRight h n = (!(h.num != 0) && (((bs h.text).toList == []) && (!decide ((n : Int) < 1) && !decide ((1 : Int) < (n : Int))))) := by
    have e1 : ((bs h.text).toList == []) = decide (h.text = []) := emptyT _
    rw [e1, Bool.eq_iff_iff]
    unfold hdRight
    rw [hk]
    simp <;> omega
  have hn2 := hE.few
  unfold maxLen at hn2
  have hdd : decide ((32 : Int) < (d : Int)) = false := by simp; omega
  have k1 : (h.kind == 1) = false := by rw [beq_eq_false_iff_ne]; omega
  have k2 : (h.kind == 2) = false := by rw [beq_eq_false_iff_ne]; omega
  have k3 : (h.kind == 3) = false := by rw [beq_eq_false_iff_ne]; omega
  have k4 : (h.kind == 4) = true := by rw [beq_iff_eq]; omega
  have kn1 : (h.kind != 1) = true := by simp [hk]
  have kg3 : decide ((3 : Int) < h.kind) = true := by simp [hk]
  obtain ⟨g, off, hka, hF'⟩ := foAt_addr hE.kids
  have hbx : Below w.heap.size w (w.alloc (.cells #[.int .i64 h.kind, .int .i64 h.num, .string (bs h.text), .slice ka n c, .int .i64 h.pl] 24)) := (Below.refl _ _).alloc (Nat.le_refl _) _
  have HB : Hid (Below w.heap.size w (w.alloc (.cells #[.int .i64 h.kind, .int .i64 h.num, .string (bs h.text), .slice ka n c, .int .i64 h.pl] 24)) ∧ (w.alloc (.cells #[.int .i64 h.kind, .int .i64 h.num, .string (bs h.text), .slice ka n c, .int .i64 h.pl] 24)).heap[w.heap.size]? = some (.cells #[.int .i64 h.kind, .int .i64 h.num, .string (bs h.text), .slice ka n c, .int .i64 h.pl] 24 (0, 0))) := ⟨hbx, heap_alloc_new w _⟩
  clear hk IH0
  cases hX : hdRight h n with
  | false =>
    rw [hX] at hR
    have hw : ((h.num != 0) = true ∨ ((h.num != 0) = false ∧ (((bs h.text).toList == []) = false ∨ (((bs h.text).toList == []) = true ∧ (decide ((n : Int) < 1) = true ∨ (decide ((n : Int) < 1) = false ∧ decide ((1 : Int) < (n : Int)) = true)))))) := by
      revert hR
      cases (h.num != 0) <;> cases ((bs h.text).toList == []) <;> cases decide ((n : Int) < 1) <;> cases decide ((1 : Int) < (n : Int)) <;> simp
    clear hX hR IH hE hF' hbx hka
    rw [Bool.false_and]
    rcases hw with q0 | ⟨q0, q1 | ⟨q1, q2 | ⟨q2, q3⟩⟩⟩ <;> (
      go_enter Tryz.func13, Tryz.ntmps13
      go_wp2
      go_ret
      exact ⟨rfl, HB.out.1⟩)
  | true =>
    rw [hX] at hR
    have hw : (h.num != 0) = false ∧ ((bs h.text).toList == []) = true ∧ decide ((n : Int) < 1) = false ∧ decide ((1 : Int) < (n : Int)) = false := by
      revert hR
      cases (h.num != 0) <;> cases ((bs h.text).toList == []) <;> cases decide ((n : Int) < 1) <;> cases decide ((1 : Int) < (n : Int)) <;> simp
    obtain ⟨q0, q1, q2, q3⟩ := hw
    rw [Bool.true_and]
    generalize hD : rgtF (32 - d) F = D
    have HF2 : Hid (FoAt o S (w.alloc (.cells #[.int .i64 h.kind, .int .i64 h.num, .string (bs h.text), .slice ka n c, .int .i64 h.pl] 24)) F (some ⟨g, off + 0 * 5, none⟩) (n - 0) ∧ szF F ≤ N ∧ rgtF (32 - d) F = D ∧ Below w.heap.size w (w.alloc (.cells #[.int .i64 h.kind, .int .i64 h.num, .string (bs h.text), .slice ka n c, .int .i64 h.pl] 24)) ∧ (w.alloc (.cells #[.int .i64 h.kind, .int .i64 h.num, .string (bs h.text), .slice ka n c, .int .i64 h.pl] 24)).heap[w.heap.size]? = some (.cells #[.int .i64 h.kind, .int .i64 h.num, .string (bs h.text), .slice ka n c, .int .i64 h.pl] 24 (0, 0))) := ⟨hF'.below hbx, hN, hD, HB.out⟩
    clear hX hR hE hF' hbx hN hD HB
    go_enter Tryz.func13, Tryz.ntmps13
    go_wp2_with fail
    go_loopg [9] n (fun k iv wr => ∃ (F' : Fo) (i : Nat), iv = .int .i64 (i : Int) ∧ i + k = n ∧ Hid (FoAt o S wr F' (some ⟨g, off + i * 5, none⟩) (n - i) ∧ szF F' ≤ N ∧ rgtF (32 - d) F' = D ∧ Below w.heap.size w wr ∧ wr.heap[w.heap.size]? = some (.cells #[.int .i64 h.kind, .int .i64 h.num, .string (bs h.text), .slice ka n c, .int .i64 h.pl] 24 (0, 0))))
    case atStart => exact ⟨F, 0, rfl, by omega, HF2.out⟩
    case round =>
      clear HF2
      obtain ⟨F', i, rfl, hik, HT⟩ := hrel
      obtain ⟨v1, v2, v3, v4, v5⟩ := HT.out
      have bk := blk (i := 3) v5 rfl
      by_cases hi : i < n
      · have hdi : decide ((i : Int) < (n : Int)) = true := by simp; omega
        obtain ⟨b1, o1, h1, k1, r1, ka1, kc1, kk1, rfl, -, hok1, hkc1, ⟨c0, c1, c2, c3, c4⟩, hk1, hr1⟩ := foAt_head v1 hi
        have hka2 := hka (by omega)
        subst hka2
        have HR : Hid (FoAt o S wr r1 (some ⟨g, off + (i + 1) * 5, none⟩) (n - (i + 1)) ∧ szF r1 ≤ N ∧ (rgtE (d + 1) (h1, k1) && rgtF (32 - d) r1) = D ∧ Below w.heap.size w wr ∧ wr.heap[w.heap.size]? = some (.cells #[.int .i64 h.kind, .int .i64 h.num, .string (bs h.text), .slice (some ⟨g, off, none⟩) n c, .int .i64 h.pl] 24 (0, 0))) := by
          simp only [szF] at v2
          rw [rgtF_cons hd] at v3
          exact ⟨hr1, by omega, v3, v4, v5⟩
        have HKx : Hid (Calls Tryz.prog 13 #[.agg #[.int .i64 h1.kind, .int .i64 h1.num, .string (bs h1.text), .slice ka1 kc1 kk1, .int .i64 h1.pl], .int .i64 ((d : Int) + 1)] wr fun e' w' => e' = .returned (.bool (rgtE (d + 1) (h1, k1))) ∧ Below wr.heap.size wr w') := by
          simp only [szF] at v2
          exact IH.out (h1, k1) ka1 kc1 kk1 wr ⟨hok1, hkc1, hk1⟩ (by show szF k1 < N; omega)
        clear HT hk1 hr1 hok1 hkc1 v1 v2 v3 v4 v5
        cases hk : rgtE (d + 1) (h1, k1) with
        | true =>
          rw [hk] at HKx HR
          clear hk
          go_wp2_with fail
          refine HKx.out.mono ?_
          rintro e' w3 ⟨rfl, hb3⟩
          have HN : Hid (FoAt o S w3 r1 (some ⟨g, off + (i + 1) * 5, none⟩) (n - (i + 1)) ∧ szF r1 ≤ N ∧ rgtF (32 - d) r1 = D ∧ Below w.heap.size w w3 ∧ w3.heap[w.heap.size]? = some (.cells #[.int .i64 h.kind, .int .i64 h.num, .string (bs h.text), .slice (some ⟨g, off, none⟩) n c, .int .i64 h.pl] 24 (0, 0))) := by
            obtain ⟨a1, a2, a3, a4, a5⟩ := HR.out
            exact ⟨a1.below hb3, a2, by simpa using a3, a4.trans (hb3.mono a4.size), by rw [hb3.block _ (lt_block a5)]; exact a5⟩
          clear hb3 HR HKx bk c0 c1 c2 c3 c4
          go_wp2_with fail
          go_roundg (gk - 1)
          case measure => omega
          case rel => exact ⟨r1, i + 1, by go_num, by omega, HN.out⟩
        | false =>
          rw [hk] at HKx HR
          clear hk
          go_wp2_with fail
          refine HKx.out.mono ?_
          rintro e' w3 ⟨rfl, hb3⟩
          have HN : Hid (D = false ∧ Below w.heap.size w w3) := by
            obtain ⟨_, _, a3, a4, _⟩ := HR.out
            exact ⟨by simpa using a3.symm, a4.trans (hb3.mono a4.size)⟩
          clear hb3 HR HKx bk c0 c1 c2 c3 c4
          go_wp2
          go_ret
          exact ⟨ret_bool HN.out.1.symm, HN.out.2⟩
      · have hdi : decide ((i : Int) < (n : Int)) = false := by simp; omega
        have HX : Hid (D = true ∧ Below w.heap.size w wr) := by
          rw [show n - i = 0 by omega] at v1
          rw [foAt_end v1] at v3
          exact ⟨v3.symm.trans rfl, v4⟩
        clear HT v1 v2 v3 v4 v5
        go_wp2
        go_ret
        exact ⟨ret_bool HX.out.1.symm, HX.out.2⟩

end Go.Proofs.YtpeldiibjhffiaaGreatDoor
namespace Go.Proofs.YtpeldiibjhffiaaGreatDoor
open Go.RowKit Go.Deep

set_option maxRecDepth 20000 in
set_option maxHeartbeats 8000000 in
theorem rE_5 {o : Bool} {S : Nat → Prop} (N d : Nat) (hd : d ≤ 32) (IH0 : ∀ (e : Ex) (ka : Option Addr) (kn kc : Nat) (w : World), ExAt o S w e ka kn → szF e.2 < N → Calls Tryz.prog 13 #[.agg #[.int .i64 e.1.kind, .int .i64 e.1.num, .string (bs e.1.text), .slice ka kn kc, .int .i64 e.1.pl], .int .i64 ((d : Int) + 1)] w fun e' w' => e' = .returned (.bool (rgtE (d + 1) e)) ∧ Below w.heap.size w w')
    (h : Hd) (F : Fo) (ka : Option Addr) (n c : Nat) (w : World) (hE : ExAt o S w (h, F) ka n) (hN : szF F ≤ N) (hk : h.kind = 5) :
    Calls Tryz.prog 13 #[.agg #[.int .i64 h.kind, .int .i64 h.num, .string (bs h.text), .slice ka n c, .int .i64 h.pl], .int .i64 (d : Int)] w fun e' w' => e' = .returned (.bool (hdRight h n && rgtF (32 - d) F)) ∧ Below w.heap.size w w' := by
  have IH : Hid (∀ (e : Ex) (ka : Option Addr) (kn kc : Nat) (w : World), ExAt o S w e ka kn → szF e.2 < N → Calls Tryz.prog 13 #[.agg #[.int .i64 e.1.kind, .int .i64 e.1.num, .string (bs e.1.text), .slice ka kn kc, .int .i64 e.1.pl], .int .i64 ((d : Int) + 1)] w fun e' w' => e' = .returned (.bool (rgtE (d + 1) e)) ∧ Below w.heap.size w w') := IH0
  have hR : hdRight h n = (!(h.num != 0) && (((bs h.text).toList == []) && (!decide ((n : Int) < 2) && !decide ((2 : Int) < (n : Int))))) := by
    have e1 : ((bs h.text).toList == []) = decide (h.text = []) := emptyT _
    rw [e1, Bool.eq_iff_iff]
    unfold hdRight
    rw [hk]
    simp <;> omega
  have hn2 := hE.few
  unfold maxLen at hn2
  have hdd : decide ((32 : Int) < (d : Int)) = false := by simp; omega
  have k1 : (h.kind == 1) = false := by rw [beq_eq_false_iff_ne]; omega
  have k2 : (h.kind == 2) = false := by rw [beq_eq_false_iff_ne]; omega
  have k3 : (h.kind == 3) = false := by rw [beq_eq_false_iff_ne]; omega
  have k4 : (h.kind == 4) = false := by rw [beq_eq_false_iff_ne]; omega
  have k5 : (h.kind == 5) = true := by rw [beq_iff_eq]; omega
  have kn1 : (h.kind != 1) = true := by simp [hk]
  have kg3 : decide ((3 : Int) < h.kind) = true := by simp [hk]
  obtain ⟨g, off, hka, hF'⟩ := foAt_addr hE.kids
  have hbx : Below w.heap.size w (w.alloc (.cells #[.int .i64 h.kind, .int .i64 h.num, .string (bs h.text), .slice ka n c, .int .i64 h.pl] 24)) := (Below.refl _ _).alloc (Nat.le_refl _) _
  have HB : Hid (Below w.heap.size w (w.alloc (.cells #[.int .i64 h.kind, .int .i64 h.num, .string (bs h.text), .slice ka n c, .int .i64 h.pl] 24)) ∧ (w.alloc (.cells #[.int .i64 h.kind, .int .i64 h.num, .string (bs h.text), .slice ka n c, .int .i64 h.pl] 24)).heap[w.heap.size]? = some (.cells #[.int .i64 h.kind, .int .i64 h.num, .string (bs h.text), .slice ka n c, .int .i64 h.pl] 24 (0, 0))) := ⟨hbx, heap_alloc_new w _⟩
  clear hk IH0
  cases hX : hdRight h n with
  | false =>
    rw [hX] at hR
    have hw : ((h.num != 0) = true ∨ ((h.num != 0) = false ∧ (((bs h.text).toList == []) = false ∨ (((bs h.text).toList == []) = true ∧ (decide ((n : Int) < 2) = true ∨ (decide ((n : Int) < 2) = false ∧ decide ((2 : Int) < (n : Int)) = true)))))) := by
      revert hR
      cases (h.num != 0) <;> cases ((bs h.text).toList == []) <;> cases decide ((n : Int) < 2) <;> cases decide ((2 : Int) < (n : Int)) <;> simp
    clear hX hR IH hE hF' hbx hka
    rw [Bool.false_and]
    rcases hw with q0 | ⟨q0, q1 | ⟨q1, q2 | ⟨q2, q3⟩⟩⟩ <;> (
      go_enter Tryz.func13, Tryz.ntmps13
      go_wp2
      go_ret
      exact ⟨rfl, HB.out.1⟩)
  | true =>
    rw [hX] at hR
    have hw : (h.num != 0) = false ∧ ((bs h.text).toList == []) = true ∧ decide ((n : Int) < 2) = false ∧ decide ((2 : Int) < (n : Int)) = false := by
      revert hR
      cases (h.num != 0) <;> cases ((bs h.text).toList == []) <;> cases decide ((n : Int) < 2) <;> cases decide ((2 : Int) < (n : Int)) <;> simp
    obtain ⟨q0, q1, q2, q3⟩ := hw
    rw [Bool.true_and]
    generalize hD : rgtF (32 - d) F = D
    have HF2 : Hid (FoAt o S (w.alloc (.cells #[.int .i64 h.kind, .int .i64 h.num, .string (bs h.text), .slice ka n c, .int .i64 h.pl] 24)) F (some ⟨g, off + 0 * 5, none⟩) (n - 0) ∧ szF F ≤ N ∧ rgtF (32 - d) F = D ∧ Below w.heap.size w (w.alloc (.cells #[.int .i64 h.kind, .int .i64 h.num, .string (bs h.text), .slice ka n c, .int .i64 h.pl] 24)) ∧ (w.alloc (.cells #[.int .i64 h.kind, .int .i64 h.num, .string (bs h.text), .slice ka n c, .int .i64 h.pl] 24)).heap[w.heap.size]? = some (.cells #[.int .i64 h.kind, .int .i64 h.num, .string (bs h.text), .slice ka n c, .int .i64 h.pl] 24 (0, 0))) := ⟨hF'.below hbx, hN, hD, HB.out⟩
    clear hX hR hE hF' hbx hN hD HB
    go_enter Tryz.func13, Tryz.ntmps13
    go_wp2_with fail
    go_loopg [9] n (fun k iv wr => ∃ (F' : Fo) (i : Nat), iv = .int .i64 (i : Int) ∧ i + k = n ∧ Hid (FoAt o S wr F' (some ⟨g, off + i * 5, none⟩) (n - i) ∧ szF F' ≤ N ∧ rgtF (32 - d) F' = D ∧ Below w.heap.size w wr ∧ wr.heap[w.heap.size]? = some (.cells #[.int .i64 h.kind, .int .i64 h.num, .string (bs h.text), .slice ka n c, .int .i64 h.pl] 24 (0, 0))))
    case atStart => exact ⟨F, 0, rfl, by omega, HF2.out⟩
    case round =>
      clear HF2
      obtain ⟨F', i, rfl, hik, HT⟩ := hrel
      obtain ⟨v1, v2, v3, v4, v5⟩ := HT.out
      have bk := blk (i := 3) v5 rfl
      by_cases hi : i < n
      · have hdi : decide ((i : Int) < (n : Int)) = true := by simp; omega
        obtain ⟨b1, o1, h1, k1, r1, ka1, kc1, kk1, rfl, -, hok1, hkc1, ⟨c0, c1, c2, c3, c4⟩, hk1, hr1⟩ := foAt_head v1 hi
        have hka2 := hka (by omega)
        subst hka2
        have HR : Hid (FoAt o S wr r1 (some ⟨g, off + (i + 1) * 5, none⟩) (n - (i + 1)) ∧ szF r1 ≤ N ∧ (rgtE (d + 1) (h1, k1) && rgtF (32 - d) r1) = D ∧ Below w.heap.size w wr ∧ wr.heap[w.heap.size]? = some (.cells #[.int .i64 h.kind, .int .i64 h.num, .string (bs h.text), .slice (some ⟨g, off, none⟩) n c, .int .i64 h.pl] 24 (0, 0))) := by
          simp only [szF] at v2
          rw [rgtF_cons hd] at v3
          exact ⟨hr1, by omega, v3, v4, v5⟩
        have HKx : Hid (Calls Tryz.prog 13 #[.agg #[.int .i64 h1.kind, .int .i64 h1.num, .string (bs h1.text), .slice ka1 kc1 kk1, .int .i64 h1.pl], .int .i64 ((d : Int) + 1)] wr fun e' w' => e' = .returned (.bool (rgtE (d + 1) (h1, k1))) ∧ Below wr.heap.size wr w') := by
          simp only [szF] at v2
          exact IH.out (h1, k1) ka1 kc1 kk1 wr ⟨hok1, hkc1, hk1⟩ (by show szF k1 < N; omega)
        clear HT hk1 hr1 hok1 hkc1 v1 v2 v3 v4 v5
        cases hk : rgtE (d + 1) (h1, k1) with
        | true =>
          rw [hk] at HKx HR
          clear hk
          go_wp2_with fail
          refine HKx.out.mono ?_
          rintro e' w3 ⟨rfl, hb3⟩
          have HN : Hid (FoAt o S w3 r1 (some ⟨g, off + (i + 1) * 5, none⟩) (n - (i + 1)) ∧ szF r1 ≤ N ∧ rgtF (32 - d) r1 = D ∧ Below w.heap.size w w3 ∧ w3.heap[w.heap.size]? = some (.cells #[.int .i64 h.kind, .int .i64 h.num, .string (bs h.text), .slice (some ⟨g, off, none⟩) n c, .int .i64 h.pl] 24 (0, 0))) := by
            obtain ⟨a1, a2, a3, a4, a5⟩ := HR.out
            exact ⟨a1.below hb3, a2, by simpa using a3, a4.trans (hb3.mono a4.size), by rw [hb3.block _ (lt_block a5)]; exact a5⟩
          clear hb3 HR HKx bk c0 c1 c2 c3 c4
          go_wp2_with fail
          go_roundg (gk - 1)
          case measure => omega
          case rel => exact ⟨r1, i + 1, by go_num, by omega, HN.out⟩
        | false =>
          rw [hk] at HKx HR
          clear hk
          go_wp2_with fail
          refine HKx.out.mono ?_
          rintro e' w3 ⟨rfl, hb3⟩
          have HN : Hid (D = false ∧ Below w.heap.size w w3) := by
            obtain ⟨_, _, a3, a4, _⟩ := HR.out
            exact ⟨by simpa using a3.symm, a4.trans (hb3.mono a4.size)⟩
          clear hb3 HR HKx bk c0 c1 c2 c3 c4
          go_wp2
          go_ret
          exact ⟨ret_bool HN.out.1.symm, HN.out.2⟩
      · have hdi : decide ((i : Int) < (n : Int)) = false := by simp; omega
        have HX : Hid (D = true ∧ Below w.heap.size w wr) := by
          rw [show n - i = 0 by omega] at v1
          rw [foAt_end v1] at v3
          exact ⟨v3.symm.trans rfl, v4⟩
        clear HT v1 v2 v3 v4 v5
        go_wp2
        go_ret
        exact ⟨ret_bool HX.out.1.symm, HX.out.2⟩

set_option maxRecDepth 20000 in
set_option maxHeartbeats 8000000 in
theorem rE_6 {o : Bool} {S : Nat → Prop} (N d : Nat) (hd : d ≤ 32) (IH0 : ∀ (e : Ex) (ka : Option Addr) (kn kc : Nat) (w : World), ExAt o S w e ka kn → szF e.2 < N → Calls Tryz.prog 13 #[.agg #[.int .i64 e.1.kind, .int .i64 e.1.num, .string (bs e.1.text), .slice ka kn kc, .int .i64 e.1.pl], .int .i64 ((d : Int) + 1)] w fun e' w' => e' = .returned (.bool (rgtE (d + 1) e)) ∧ Below w.heap.size w w')
    (h : Hd) (F : Fo) (ka : Option Addr) (n c : Nat) (w : World) (hE : ExAt o S w (h, F) ka n) (hN : szF F ≤ N) (hk : h.kind = 6) :
    Calls Tryz.prog 13 #[.agg #[.int .i64 h.kind, .int .i64 h.num, .string (bs h.text), .slice ka n c, .int .i64 h.pl], .int .i64 (d : Int)] w fun e' w' => e' = .returned (.bool (hdRight h n && rgtF (32 - d) F)) ∧ Below w.heap.size w w' := by
  have IH : Hid (∀ (e : Ex) (ka : Option Addr) (kn kc : Nat) (w : World), ExAt o S w e ka kn → szF e.2 < N → Calls Tryz.prog 13 #[.agg #[.int .i64 e.1.kind, .int .i64 e.1.num, .string (bs e.1.text), .slice ka kn kc, .int .i64 e.1.pl], .int .i64 ((d : Int) + 1)] w fun e' w' => e' = .returned (.bool (rgtE (d + 1) e)) ∧ Below w.heap.size w w') := IH0
  have hR : hdRight h n = (!(h.num != 0) && (((bs h.text).toList == []) && (!decide ((n : Int) < 2) && !decide ((2 : Int) < (n : Int))))) := by
    have e1 : ((bs h.text).toList == []) = decide (h.text = []) := emptyT _
    rw [e1, Bool.eq_iff_iff]
    unfold hdRight
    rw [hk]
    simp <;> omega
  have hn2 := hE.few
  unfold maxLen at hn2
  have hdd : decide ((32 : Int) < (d : Int)) = false := by simp; omega
  have k1 : (h.kind == 1) = false := by rw [beq_eq_false_iff_ne]; omega
  have k2 : (h.kind == 2) = false := by rw [beq_eq_false_iff_ne]; omega
  have k3 : (h.kind == 3) = false := by rw [beq_eq_false_iff_ne]; omega
  have k4 : (h.kind == 4) = false := by rw [beq_eq_false_iff_ne]; omega
  have k5 : (h.kind == 5) = false := by rw [beq_eq_false_iff_ne]; omega
  have k6 : (h.kind == 6) = true := by rw [beq_iff_eq]; omega
  have kn1 : (h.kind != 1) = true := by simp [hk]
  have kg3 : decide ((3 : Int) < h.kind) = true := by simp [hk]
  obtain ⟨g, off, hka, hF'⟩ := foAt_addr hE.kids
  have hbx : Below w.heap.size w (w.alloc (.cells #[.int .i64 h.kind, .int .i64 h.num, .string (bs h.text), .slice ka n c, .int .i64 h.pl] 24)) := (Below.refl _ _).alloc (Nat.le_refl _) _
  have HB : Hid (Below w.heap.size w (w.alloc (.cells #[.int .i64 h.kind, .int .i64 h.num, .string (bs h.text), .slice ka n c, .int .i64 h.pl] 24)) ∧ (w.alloc (.cells #[.int .i64 h.kind, .int .i64 h.num, .string (bs h.text), .slice ka n c, .int .i64 h.pl] 24)).heap[w.heap.size]? = some (.cells #[.int .i64 h.kind, .int .i64 h.num, .string (bs h.text), .slice ka n c, .int .i64 h.pl] 24 (0, 0))) := ⟨hbx, heap_alloc_new w _⟩
  clear hk IH0
  cases hX : hdRight h n with
  | false =>
    rw [hX] at hR
    have hw : ((h.num != 0) = true ∨ ((h.num != 0) = false ∧ (((bs h.text).toList == []) = false ∨ (((bs h.text).toList == []) = true ∧ (decide ((n : Int) < 2) = true ∨ (decide ((n : Int) < 2) = false ∧ decide ((2 : Int) < (n : Int)) = true)))))) := by
      revert hR
      cases (h.num != 0) <;> cases ((bs h.text).toList == []) <;> cases decide ((n : Int) < 2) <;> cases decide ((2 : Int) < (n : Int)) <;> simp
    clear hX hR IH hE hF' hbx hka
    rw [Bool.false_and]
    rcases hw with q0 | ⟨q0, q1 | ⟨q1, q2 | ⟨q2, q3⟩⟩⟩ <;> (
      go_enter Tryz.func13, Tryz.ntmps13
      go_wp2
      go_ret
      exact ⟨rfl, HB.out.1⟩)
  | true =>
    rw [hX] at hR
    have hw : (h.num != 0) = false ∧ ((bs h.text).toList == []) = true ∧ decide ((n : Int) < 2) = false ∧ decide ((2 : Int) < (n : Int)) = false := by
      revert hR
      cases (h.num != 0) <;> cases ((bs h.text).toList == []) <;> cases decide ((n : Int) < 2) <;> cases decide ((2 : Int) < (n : Int)) <;> simp
    obtain ⟨q0, q1, q2, q3⟩ := hw
    rw [Bool.true_and]
    generalize hD : rgtF (32 - d) F = D
    have HF2 : Hid (FoAt o S (w.alloc (.cells #[.int .i64 h.kind, .int .i64 h.num, .string (bs h.text), .slice ka n c, .int .i64 h.pl] 24)) F (some ⟨g, off + 0 * 5, none⟩) (n - 0) ∧ szF F ≤ N ∧ rgtF (32 - d) F = D ∧ Below w.heap.size w (w.alloc (.cells #[.int .i64 h.kind, .int .i64 h.num, .string (bs h.text), .slice ka n c, .int .i64 h.pl] 24)) ∧ (w.alloc (.cells #[.int .i64 h.kind, .int .i64 h.num, .string (bs h.text), .slice ka n c, .int .i64 h.pl] 24)).heap[w.heap.size]? = some (.cells #[.int .i64 h.kind, .int .i64 h.num, .string (bs h.text), .slice ka n c, .int .i64 h.pl] 24 (0, 0))) := ⟨hF'.below hbx, hN, hD, HB.out⟩
    clear hX hR hE hF' hbx hN hD HB
    go_enter Tryz.func13, Tryz.ntmps13
    go_wp2_with fail
    go_loopg [9] n (fun k iv wr => ∃ (F' : Fo) (i : Nat), iv = .int .i64 (i : Int) ∧ i + k = n ∧ Hid (FoAt o S wr F' (some ⟨g, off + i * 5, none⟩) (n - i) ∧ szF F' ≤ N ∧ rgtF (32 - d) F' = D ∧ Below w.heap.size w wr ∧ wr.heap[w.heap.size]? = some (.cells #[.int .i64 h.kind, .int .i64 h.num, .string (bs h.text), .slice ka n c, .int .i64 h.pl] 24 (0, 0))))
    case atStart => exact ⟨F, 0, rfl, by omega, HF2.out⟩
    case round =>
      clear HF2
      obtain ⟨F', i, rfl, hik, HT⟩ := hrel
      obtain ⟨v1, v2, v3, v4, v5⟩ := HT.out
      have bk := blk (i := 3) v5 rfl
      by_cases hi : i < n
      · have hdi : decide ((i : Int) < (n : Int)) = true := by simp; omega
        obtain ⟨b1, o1, h1, k1, r1, ka1, kc1, kk1, rfl, -, hok1, hkc1, ⟨c0, c1, c2, c3, c4⟩, hk1, hr1⟩ := foAt_head v1 hi
        have hka2 := hka (by omega)
        subst hka2
        have HR : Hid (FoAt o S wr r1 (some ⟨g, off + (i + 1) * 5, none⟩) (n - (i + 1)) ∧ szF r1 ≤ N ∧ (rgtE (d + 1) (h1, k1) && rgtF (32 - d) r1) = D ∧ Below w.heap.size w wr ∧ wr.heap[w.heap.size]? = some (.cells #[.int .i64 h.kind, .int .i64 h.num, .string (bs h.text), .slice (some ⟨g, off, none⟩) n c, .int .i64 h.pl] 24 (0, 0))) := by
          simp only [szF] at v2
          rw [rgtF_cons hd] at v3
          exact ⟨hr1, by omega, v3, v4, v5⟩
        have HKx : Hid (Calls Tryz.prog 13 #[.agg #[.int .i64 h1.kind, .int .i64 h1.num, .string (bs h1.text), .slice ka1 kc1 kk1, .int .i64 h1.pl], .int .i64 ((d : Int) + 1)] wr fun e' w' => e' = .returned (.bool (rgtE (d + 1) (h1, k1))) ∧ Below wr.heap.size wr w') := by
          simp only [szF] at v2
          exact IH.out (h1, k1) ka1 kc1 kk1 wr ⟨hok1, hkc1, hk1⟩ (by show szF k1 < N; omega)
        clear HT hk1 hr1 hok1 hkc1 v1 v2 v3 v4 v5
        cases hk : rgtE (d + 1) (h1, k1) with
        | true =>
          rw [hk] at HKx HR
          clear hk
          go_wp2_with fail
          refine HKx.out.mono ?_
          rintro e' w3 ⟨rfl, hb3⟩
          have HN : Hid (FoAt o S w3 r1 (some ⟨g, off + (i + 1) * 5, none⟩) (n - (i + 1)) ∧ szF r1 ≤ N ∧ rgtF (32 - d) r1 = D ∧ Below w.heap.size w w3 ∧ w3.heap[w.heap.size]? = some (.cells #[.int .i64 h.kind, .int .i64 h.num, .string (bs h.text), .slice (some ⟨g, off, none⟩) n c, .int .i64 h.pl] 24 (0, 0))) := by
            obtain ⟨a1, a2, a3, a4, a5⟩ := HR.out
            exact ⟨a1.below hb3, a2, by simpa using a3, a4.trans (hb3.mono a4.size), by rw [hb3.block _ (lt_block a5)]; exact a5⟩
          clear hb3 HR HKx bk c0 c1 c2 c3 c4
          go_wp2_with fail
          go_roundg (gk - 1)
          case measure => omega
          case rel => exact ⟨r1, i + 1, by go_num, by omega, HN.out⟩
        | false =>
          rw [hk] at HKx HR
          clear hk
          go_wp2_with fail
          refine HKx.out.mono ?_
          rintro e' w3 ⟨rfl, hb3⟩
          have HN : Hid (D = false ∧ Below w.heap.size w w3) := by
            obtain ⟨_, _, a3, a4, _⟩ := HR.out
            exact ⟨by simpa using a3.symm, a4.trans (hb3.mono a4.size)⟩
          clear hb3 HR HKx bk c0 c1 c2 c3 c4
          go_wp2
          go_ret
          exact ⟨ret_bool HN.out.1.symm, HN.out.2⟩
      · have hdi : decide ((i : Int) < (n : Int)) = false := by simp; omega
        have HX : Hid (D = true ∧ Below w.heap.size w wr) := by
          rw [show n - i = 0 by omega] at v1
          rw [foAt_end v1] at v3
          exact ⟨v3.symm.trans rfl, v4⟩
        clear HT v1 v2 v3 v4 v5
        go_wp2
        go_ret
        exact ⟨ret_bool HX.out.1.symm, HX.out.2⟩

set_option maxRecDepth 20000 in
set_option maxHeartbeats 8000000 in
theorem rE_7 {o : Bool} {S : Nat → Prop} (N d : Nat) (hd : d ≤ 32) (IH0 : ∀ (e : Ex) (ka : Option Addr) (kn kc : Nat) (w : World), ExAt o S w e ka kn → szF e.2 < N → Calls Tryz.prog 13 #[.agg #[.int .i64 e.1.kind, .int .i64 e.1.num, .string (bs e.1.text), .slice ka kn kc, .int .i64 e.1.pl], .int .i64 ((d : Int) + 1)] w fun e' w' => e' = .returned (.bool (rgtE (d + 1) e)) ∧ Below w.heap.size w w')
    (h : Hd) (F : Fo) (ka : Option Addr) (n c : Nat) (w : World) (hE : ExAt o S w (h, F) ka n) (hN : szF F ≤ N) (hk : h.kind = 7) :
    Calls Tryz.prog 13 #[.agg #[.int .i64 h.kind, .int .i64 h.num, .string (bs h.text), .slice ka n c, .int .i64 h.pl], .int .i64 (d : Int)] w fun e' w' => e' = .returned (.bool (hdRight h n && rgtF (32 - d) F)) ∧ Below w.heap.size w w' := by
  have IH : Hid (∀ (e : Ex) (ka : Option Addr) (kn kc : Nat) (w : World), ExAt o S w e ka kn → szF e.2 < N → Calls Tryz.prog 13 #[.agg #[.int .i64 e.1.kind, .int .i64 e.1.num, .string (bs e.1.text), .slice ka kn kc, .int .i64 e.1.pl], .int .i64 ((d : Int) + 1)] w fun e' w' => e' = .returned (.bool (rgtE (d + 1) e)) ∧ Below w.heap.size w w') := IH0
  have hR : hdRight h n = (!(h.num != 0) && (((bs h.text).toList == []) && (!decide ((n : Int) < 2) && !decide ((2 : Int) < (n : Int))))) := by
    have e1 : ((bs h.text).toList == []) = decide (h.text = []) := emptyT _
    rw [e1, Bool.eq_iff_iff]
    unfold hdRight
    rw [hk]
    simp <;> omega
  have hn2 := hE.few
  unfold maxLen at hn2
  have hdd : decide ((32 : Int) < (d : Int)) = false := by simp; omega
  have k1 : (h.kind == 1) = false := by rw [beq_eq_false_iff_ne]; omega
  have k2 : (h.kind == 2) = false := by rw [beq_eq_false_iff_ne]; omega
  have k3 : (h.kind == 3) = false := by rw [beq_eq_false_iff_ne]; omega
  have k4 : (h.kind == 4) = false := by rw [beq_eq_false_iff_ne]; omega
  have k5 : (h.kind == 5) = false := by rw [beq_eq_false_iff_ne]; omega
  have k6 : (h.kind == 6) = false := by rw [beq_eq_false_iff_ne]; omega
  have k7 : (h.kind == 7) = true := by rw [beq_iff_eq]; omega
  have kn1 : (h.kind != 1) = true := by simp [hk]
  have kg3 : decide ((3 : Int) < h.kind) = true := by simp [hk]
  obtain ⟨g, off, hka, hF'⟩ := foAt_addr hE.kids
  have hbx : Below w.heap.size w (w.alloc (.cells #[.int .i64 h.kind, .int .i64 h.num, .string (bs h.text), .slice ka n c, .int .i64 h.pl] 24)) := (Below.refl _ _).alloc (Nat.le_refl _) _
  have HB : Hid (Below w.heap.size w (w.alloc (.cells #[.int .i64 h.kind, .int .i64 h.num, .string (bs h.text), .slice ka n c, .int .i64 h.pl] 24)) ∧ (w.alloc (.cells #[.int .i64 h.kind, .int .i64 h.num, .string (bs h.text), .slice ka n c, .int .i64 h.pl] 24)).heap[w.heap.size]? = some (.cells #[.int .i64 h.kind, .int .i64 h.num, .string (bs h.text), .slice ka n c, .int .i64 h.pl] 24 (0, 0))) := ⟨hbx, heap_alloc_new w _⟩
  clear hk IH0
  cases hX : hdRight h n with
  | false =>
    rw [hX] at hR
    have hw : ((h.num != 0) = true ∨ ((h.num != 0) = false ∧ (((bs h.text).toList == []) = false ∨ (((bs h.text).toList == []) = true ∧ (decide ((n : Int) < 2) = true ∨ (decide ((n : Int) < 2) = false ∧ decide ((2 : Int) < (n : Int)) = true)))))) := by
      revert hR
      cases (h.num != 0) <;> cases ((bs h.text).toList == []) <;> cases decide ((n : Int) < 2) <;> cases decide ((2 : Int) < (n : Int)) <;> simp
    clear hX hR IH hE hF' hbx hka
    rw [Bool.false_and]
    rcases hw with q0 | ⟨q0, q1 | ⟨q1, q2 | ⟨q2, q3⟩⟩⟩ <;> (
      go_enter Tryz.func13, Tryz.ntmps13
      go_wp2
      go_ret
      exact ⟨rfl, HB.out.1⟩)
  | true =>
    rw [hX] at hR
    have hw : (h.num != 0) = false ∧ ((bs h.text).toList == []) = true ∧ decide ((n : Int) < 2) = false ∧ decide ((2 : Int) < (n : Int)) = false := by
      revert hR
      cases (h.num != 0) <;> cases ((bs h.text).toList == []) <;> cases decide ((n : Int) < 2) <;> cases decide ((2 : Int) < (n : Int)) <;> simp
    obtain ⟨q0, q1, q2, q3⟩ := hw
    rw [Bool.true_and]
    generalize hD : rgtF (32 - d) F = D
    have HF2 : Hid (FoAt o S (w.alloc (.cells #[.int .i64 h.kind, .int .i64 h.num, .string (bs h.text), .slice ka n c, .int .i64 h.pl] 24)) F (some ⟨g, off + 0 * 5, none⟩) (n - 0) ∧ szF F ≤ N ∧ rgtF (32 - d) F = D ∧ Below w.heap.size w (w.alloc (.cells #[.int .i64 h.kind, .int .i64 h.num, .string (bs h.text), .slice ka n c, .int .i64 h.pl] 24)) ∧ (w.alloc (.cells #[.int .i64 h.kind, .int .i64 h.num, .string (bs h.text), .slice ka n c, .int .i64 h.pl] 24)).heap[w.heap.size]? = some (.cells #[.int .i64 h.kind, .int .i64 h.num, .string (bs h.text), .slice ka n c, .int .i64 h.pl] 24 (0, 0))) := ⟨hF'.below hbx, hN, hD, HB.out⟩
    clear hX hR hE hF' hbx hN hD HB
    go_enter Tryz.func13, Tryz.ntmps13
    go_wp2_with fail
    go_loopg [9] n (fun k iv wr => ∃ (F' : Fo) (i : Nat), iv = .int .i64 (i : Int) ∧ i + k = n ∧ Hid (FoAt o S wr F' (some ⟨g, off + i * 5, none⟩) (n - i) ∧ szF F' ≤ N ∧ rgtF (32 - d) F' = D ∧ Below w.heap.size w wr ∧ wr.heap[w.heap.size]? = some (.cells #[.int .i64 h.kind, .int .i64 h.num, .string (bs h.text), .slice ka n c, .int .i64 h.pl] 24 (0, 0))))
    case atStart => exact ⟨F, 0, rfl, by omega, HF2.out⟩
    case round =>
      clear HF2
      obtain ⟨F', i, rfl, hik, HT⟩ := hrel
      obtain ⟨v1, v2, v3, v4, v5⟩ := HT.out
      have bk := blk (i := 3) v5 rfl
      by_cases hi : i < n
      · have hdi : decide ((i : Int) < (n : Int)) = true := by simp; omega
        obtain ⟨b1, o1, h1, k1, r1, ka1, kc1, kk1, rfl, -, hok1, hkc1, ⟨c0, c1, c2, c3, c4⟩, hk1, hr1⟩ := foAt_head v1 hi
        have hka2 := hka (by omega)
        subst hka2
        have HR : Hid (FoAt o S wr r1 (some ⟨g, off + (i + 1) * 5, none⟩) (n - (i + 1)) ∧ szF r1 ≤ N ∧ (rgtE (d + 1) (h1, k1) && rgtF (32 - d) r1) = D ∧ Below w.heap.size w wr ∧ wr.heap[w.heap.size]? = some (.cells #[.int .i64 h.kind, .int .i64 h.num, .string (bs h.text), .slice (some ⟨g, off, none⟩) n c, .int .i64 h.pl] 24 (0, 0))) := by
          simp only [szF] at v2
          rw [rgtF_cons hd] at v3
          exact ⟨hr1, by omega, v3, v4, v5⟩
        have HKx : Hid (Calls Tryz.prog 13 #[.agg #[.int .i64 h1.kind, .int .i64 h1.num, .string (bs h1.text), .slice ka1 kc1 kk1, .int .i64 h1.pl], .int .i64 ((d : Int) + 1)] wr fun e' w' => e' = .returned (.bool (rgtE (d + 1) (h1, k1))) ∧ Below wr.heap.size wr w') := by
          simp only [szF] at v2
          exact IH.out (h1, k1) ka1 kc1 kk1 wr ⟨hok1, hkc1, hk1⟩ (by show szF k1 < N; omega)
        clear HT hk1 hr1 hok1 hkc1 v1 v2 v3 v4 v5
        cases hk : rgtE (d + 1) (h1, k1) with
        | true =>
          rw [hk] at HKx HR
          clear hk
          go_wp2_with fail
          refine HKx.out.mono ?_
          rintro e' w3 ⟨rfl, hb3⟩
          have HN : Hid (FoAt o S w3 r1 (some ⟨g, off + (i + 1) * 5, none⟩) (n - (i + 1)) ∧ szF r1 ≤ N ∧ rgtF (32 - d) r1 = D ∧ Below w.heap.size w w3 ∧ w3.heap[w.heap.size]? = some (.cells #[.int .i64 h.kind, .int .i64 h.num, .string (bs h.text), .slice (some ⟨g, off, none⟩) n c, .int .i64 h.pl] 24 (0, 0))) := by
            obtain ⟨a1, a2, a3, a4, a5⟩ := HR.out
            exact ⟨a1.below hb3, a2, by simpa using a3, a4.trans (hb3.mono a4.size), by rw [hb3.block _ (lt_block a5)]; exact a5⟩
          clear hb3 HR HKx bk c0 c1 c2 c3 c4
          go_wp2_with fail
          go_roundg (gk - 1)
          case measure => omega
          case rel => exact ⟨r1, i + 1, by go_num, by omega, HN.out⟩
        | false =>
          rw [hk] at HKx HR
          clear hk
          go_wp2_with fail
          refine HKx.out.mono ?_
          rintro e' w3 ⟨rfl, hb3⟩
          have HN : Hid (D = false ∧ Below w.heap.size w w3) := by
            obtain ⟨_, _, a3, a4, _⟩ := HR.out
            exact ⟨by simpa using a3.symm, a4.trans (hb3.mono a4.size)⟩
          clear hb3 HR HKx bk c0 c1 c2 c3 c4
          go_wp2
          go_ret
          exact ⟨ret_bool HN.out.1.symm, HN.out.2⟩
      · have hdi : decide ((i : Int) < (n : Int)) = false := by simp; omega
        have HX : Hid (D = true ∧ Below w.heap.size w wr) := by
          rw [show n - i = 0 by omega] at v1
          rw [foAt_end v1] at v3
          exact ⟨v3.symm.trans rfl, v4⟩
        clear HT v1 v2 v3 v4 v5
        go_wp2
        go_ret
        exact ⟨ret_bool HX.out.1.symm, HX.out.2⟩

end Go.Proofs.YtpeldiibjhffiaaGreatDoor
