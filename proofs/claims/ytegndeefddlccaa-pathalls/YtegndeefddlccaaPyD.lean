/-
  The document's rank, End and Less.
-/
import Derived.Test.YtegndeefddlccaaPyC
namespace Go.Proofs.Ytegndeefddlccaa
open Go.RowKit
set_option maxHeartbeats 400000 in
theorem rankR_calls (c : UInt8) (w : World) : Calls Try.prog 40 #[.int .u8 c.toNat] w fun e w' => e = .returned (.int .i64 (rankB c)) ∧ w = w' := by
  have hc := c.toNat_lt
  have HR : Hid (rankB c = if c = 77 then 0 else if c = 68 then 1 else if c = 73 then 2 else 3 + (c.toNat : Int)) := rfl
  by_cases h1 : c = 77
  · subst h1
    go_enter Try.func40, Try.ntmps40
    go_wp2
    go_ret
    exact ⟨rfl, rfl⟩
  · have h1b := u8_77 h1
    by_cases h2 : c = 68
    · subst h2
      go_enter Try.func40, Try.ntmps40
      go_wp2
      go_ret
      exact ⟨rfl, rfl⟩
    · have h2b := u8_68 h2
      by_cases h3 : c = 73
      · subst h3
        go_enter Try.func40, Try.ntmps40
        go_wp2
        go_ret
        exact ⟨rfl, rfl⟩
      · have h3b := u8_73 h3
        go_enter Try.func40, Try.ntmps40
        go_wp2
        go_ret
        exact ⟨ret_int (by rw [HR.out, if_neg h1, if_neg h2, if_neg h3]), rfl⟩

set_option maxHeartbeats 1000000 in
theorem endR_calls (i j : Int) (s : ByteArray) (w : World) (hs : s.size ≤ maxLen) : Calls Try.prog 39 #[.agg #[.int .i64 i, .int .i64 j, .string s]] w fun e w' => e = .returned (.tuple #[.int .i64 (endW i j s.data.toList).1, .int .i64 (endW i j s.data.toList).2]) ∧ Below w.heap.size w w' := by
  unfold maxLen at hs
  obtain ⟨ei, ej, hE⟩ : ∃ ei ej, endW i j (s.data.toList.drop 0) = (ei, ej) := ⟨_, _, rfl⟩
  have HE : Hid (endW i j s.data.toList = (ei, ej)) := hE
  obtain ⟨w1, hw1⟩ : ∃ w1, w.alloc (.cells #[.int .i64 i, .int .i64 j, .string s] 33) = w1 := ⟨_, rfl⟩
  have HB1 : Hid (Below w.heap.size w w1 ∧ w1.heap[w.heap.size]? = some (.cells #[.int .i64 i, .int .i64 j, .string s] 33 (0, 0))) := by rw [← hw1]; exact ⟨bl1 _ _, hp_at rfl⟩
  have c0 := cell_block HB1.out.2 0 (.int .i64 i) rfl
  have c1 := cell_block HB1.out.2 1 (.int .i64 j) rfl
  have c2 := cell_block HB1.out.2 2 (.string s) rfl
  rw [show (endW i j s.data.toList) = (ei, ej) from HE.out]
  go_enter Try.func39, Try.ntmps39
  subst hw1
  go_wp2
  go_loop [4, 5, 6] (fun x y k => ∃ (q : Nat) (a b : Int), q ≤ s.size ∧ k = .int .i64 q ∧ x = .int .i64 a ∧ y = .int .i64 b ∧ endW a b (s.data.toList.drop q) = (ei, ej)) (fun _ _ k => s.size - (intOf k).toNat)
  case atStart => exact ⟨0, i, j, Nat.zero_le _, rfl, rfl, rfl, hE⟩
  case round =>
    clear hE
    obtain ⟨q, a, b, hq, rfl, rfl, rfl, hr⟩ := hrel
    by_cases hql : q < s.size
    · obtain ⟨c, hcq⟩ : ∃ c, s[q] = c := ⟨_, rfl⟩
      have hg : s.data.toList[q]? = some c := by rw [← hcq]; exact ba_list s q hql
      rw [endW_drop hg] at hr
      have HR : Hid (endW (wrap64 (a + dnB c)) (wrap64 (b + ovB c)) (s.data.toList.drop (q + 1)) = (ei, ej)) := hr
      have HQ : Hid (s[q] = c) := hcq
      clear hr hg hcq
      go_wp2_with fail
      rw [HQ.out]
      refine (down_calls c _).mono ?_
      rintro e w3 ⟨rfl, rfl⟩
      go_wp2_with fail
      rw [HQ.out]
      refine (over_calls c _).mono ?_
      rintro e w4 ⟨rfl, rfl⟩
      go_wp2
      go_round
      case rel => exact ⟨q + 1, wrap64 (a + dnB c), wrap64 (b + ovB c), by omega, by go_num, rfl, rfl, HR.out⟩
      case measure => simp [intOf]; omega
    · have HR : Hid ((a, b) = (ei, ej)) := by
        have := hr
        rw [List.drop_eq_nil_of_le (by rw [ba_size]; omega)] at this
        exact this
      clear hr
      go_wp2
      go_ret2
      exact ⟨tup_eq HR.out, HB1.out.1⟩
theorem less_ends1 {p q : Pt} (h : (endW p.i p.j p.cols).1 ≠ (endW q.i q.j q.cols).1) : lessB p q = decide ((endW p.i p.j p.cols).1 < (endW q.i q.j q.cols).1) := by
  rw [Bool.eq_iff_iff, less_iff, decide_eq_true_iff]
  omega
theorem less_ends2 {p q : Pt} (h : (endW p.i p.j p.cols).1 = (endW q.i q.j q.cols).1) (h2 : (endW p.i p.j p.cols).2 ≠ (endW q.i q.j q.cols).2) : lessB p q = decide ((endW p.i p.j p.cols).2 < (endW q.i q.j q.cols).2) := by
  rw [Bool.eq_iff_iff, less_iff, decide_eq_true_iff]
  omega
theorem less_cols {p q : Pt} (h : (endW p.i p.j p.cols).1 = (endW q.i q.j q.cols).1) (h2 : (endW p.i p.j p.cols).2 = (endW q.i q.j q.cols).2) : lessB p q = decide (colR p.cols.reverse q.cols.reverse < 0) := by
  rw [Bool.eq_iff_iff, less_iff, decide_eq_true_iff]
  omega
set_option maxRecDepth 20000 in
set_option maxHeartbeats 2000000 in
theorem lessR_calls (i j k l : Int) (s t : ByteArray) (w : World) (hs : s.size ≤ 140737488351232) (ht : t.size ≤ 140737488351232) :
    Calls Try.prog 22 #[.agg #[.int .i64 i, .int .i64 j, .string s], .agg #[.int .i64 k, .int .i64 l, .string t]] w fun e w' => e = .returned (.bool (lessB ⟨i, j, s.data.toList⟩ ⟨k, l, t.data.toList⟩)) ∧ Below w.heap.size w w' := by
  have HB0 : Hid (P2 w #[.int .i64 i, .int .i64 j, .string s] #[.int .i64 k, .int .i64 l, .string t] ((w.alloc (.cells #[.int .i64 i, .int .i64 j, .string s] 33)).alloc (.cells #[.int .i64 k, .int .i64 l, .string t] 33))) := P2.start w _ _
  have hx1 := less_ends1 (p := ⟨i, j, s.data.toList⟩) (q := ⟨k, l, t.data.toList⟩)
  have hx2 := less_ends2 (p := ⟨i, j, s.data.toList⟩) (q := ⟨k, l, t.data.toList⟩)
  have hx3 := less_cols (p := ⟨i, j, s.data.toList⟩) (q := ⟨k, l, t.data.toList⟩)
  simp only at hx1 hx2 hx3
  obtain ⟨L, hL⟩ : ∃ L, lessB ⟨i, j, s.data.toList⟩ ⟨k, l, t.data.toList⟩ = L := ⟨_, rfl⟩
  rw [hL] at hx1 hx2 hx3 ⊢
  clear hL
  go_enter Try.func22, Try.ntmps22
  go_wp2_with fail
  refine (endR_calls i j s _ (by unfold maxLen; omega)).mono ?_
  rintro e w1 ⟨rfl, hb1⟩
  have HB1 : Hid (P2 w #[.int .i64 i, .int .i64 j, .string s] #[.int .i64 k, .int .i64 l, .string t] w1) := HB0.out.next hb1
  clear hb1 HB0
  have c0 := cell_block HB1.out.b 0 (.int .i64 k) rfl
  have c1 := cell_block HB1.out.b 1 (.int .i64 l) rfl
  have c2 := cell_block HB1.out.b 2 (.string t) rfl
  obtain ⟨ea, eb, hE1⟩ : ∃ ea eb, endW i j s.data.toList = (ea, eb) := ⟨_, _, rfl⟩
  rw [hE1]
  rw [hE1] at hx1 hx2 hx3
  go_wp2_with fail
  refine (endR_calls k l t _ (by unfold maxLen; omega)).mono ?_
  rintro e w2 ⟨rfl, hb2⟩
  have HB2 : Hid (P2 w #[.int .i64 i, .int .i64 j, .string s] #[.int .i64 k, .int .i64 l, .string t] w2) := HB1.out.next hb2
  clear hb2 HB1 c0 c1 c2
  have a2 := cell_block HB2.out.a 2 (.string s) rfl
  have b2 := cell_block HB2.out.b 2 (.string t) rfl
  obtain ⟨ec, ed, hE2⟩ : ∃ ec ed, endW k l t.data.toList = (ec, ed) := ⟨_, _, rfl⟩
  rw [hE2]
  rw [hE2] at hx1 hx2 hx3
  clear hE1 hE2
  simp only at hx1 hx2 hx3
  have HX : Hid ((ea ≠ ec → L = decide (ea < ec)) ∧ (ea = ec → eb ≠ ed → L = decide (eb < ed)) ∧ (ea = ec → eb = ed → L = decide (colR s.data.toList.reverse t.data.toList.reverse < 0))) := ⟨hx1, hx2, hx3⟩
  clear hx1 hx2 hx3
  by_cases h1 : ea = ec
  · subst h1
    by_cases h2 : eb = ed
    · subst h2
      have HL : Hid (L = decide (colR (s.data.toList.reverse.drop 0) (t.data.toList.reverse.drop 0) < 0)) := HX.out.2.2 rfl rfl
      clear HX
      go_wp2
      go_loop [11] (fun n => ∃ q : Nat, q ≤ s.size ∧ q ≤ t.size ∧ n = .int .i64 ((q : Int) + 1) ∧ L = decide (colR (s.data.toList.reverse.drop q) (t.data.toList.reverse.drop q) < 0)) (fun n => (s.size + 1 - intOf n).toNat)
      case atStart => exact ⟨0, by omega, by omega, rfl, HL.out⟩
      case round =>
        clear HL
        obtain ⟨q, hq1, hq2, rfl, hr⟩ := hrel
        by_cases hqs : q < s.size
        · by_cases hqt : q < t.size
          · rw [colR_step hqs hqt] at hr
            obtain ⟨ka, eka⟩ : ∃ ka, s.size - 1 - q = ka := ⟨_, rfl⟩
            obtain ⟨kb, ekb⟩ : ∃ kb, t.size - 1 - q = kb := ⟨_, rfl⟩
            simp only [eka, ekb] at hr
            have hka : (s.size : Int) - ((q : Int) + 1) = (ka : Int) := by omega
            have hkb : (t.size : Int) - ((q : Int) + 1) = (kb : Int) := by omega
            have hla2 : ka < s.size := by omega
            have hlb2 : kb < t.size := by omega
            obtain ⟨ra, hra⟩ : ∃ ra, rankB (s[ka]'hla2) = ra := ⟨_, rfl⟩
            obtain ⟨rb, hrb⟩ : ∃ rb, rankB (t[kb]'hlb2) = rb := ⟨_, rfl⟩
            rw [hra, hrb] at hr
            have CA : Hid (∀ W, Calls Try.prog 40 #[.int .u8 (s[ka]'hla2).toNat] W fun e w' => e = .returned (.int .i64 ra) ∧ W = w') := fun W => by rw [← hra]; exact rankR_calls _ W
            have CB : Hid (∀ W, Calls Try.prog 40 #[.int .u8 (t[kb]'hlb2).toNat] W fun e w' => e = .returned (.int .i64 rb) ∧ W = w') := fun W => by rw [← hrb]; exact rankR_calls _ W
            have HR2 : Hid (L = decide ((if cmpB ra rb = 0 then colR (s.data.toList.reverse.drop (q + 1)) (t.data.toList.reverse.drop (q + 1)) else cmpB ra rb) < 0)) := hr
            clear hr eka ekb hra hrb
            go_wp2_with fail
            refine (CA.out _).mono ?_
            rintro e w3 ⟨rfl, rfl⟩
            go_wp2_with fail
            refine (CB.out _).mono ?_
            rintro e w4 ⟨rfl, rfl⟩
            by_cases h0 : ra = rb
            · have HR3 := HR2.out
              rw [if_pos (cmpB_eq.2 h0)] at HR3
              subst h0
              have HR4 : Hid (L = decide (colR (s.data.toList.reverse.drop (q + 1)) (t.data.toList.reverse.drop (q + 1)) < 0)) := HR3
              clear HR3 HR2
              go_wp2
              go_round
              case rel => exact ⟨q + 1, by omega, by omega, by go_num, HR4.out⟩
              case measure => simp [intOf]; omega
            · have HR3 := HR2.out
              rw [if_neg (fun e => h0 (cmpB_eq.1 e))] at HR3
              have HR4 : Hid (L = decide (ra < rb)) := by rw [HR3]; exact decide_eq_decide.2 cmpB_lt
              have h0b : (ra != rb) = true := by simpa using h0
              clear HR3 HR2
              go_wp2
              go_ret
              exact ⟨ret_bool HR4.out.symm, HB2.out.low⟩
          · have HR3 : Hid (L = decide ((s.size : Int) < (t.size : Int))) := by
              rw [hr, colR_end (by omega) (by omega) (by omega)]
              exact decide_eq_decide.2 cmpB_lt
            clear hr
            go_wp2
            go_ret
            exact ⟨ret_bool (by rw [HR3.out]; exact decide_eq_decide.2 (by omega)), HB2.out.low⟩
        · have HR3 : Hid (L = decide ((s.size : Int) < (t.size : Int))) := by
            rw [hr, colR_end (by omega) (by omega) (by omega)]
            exact decide_eq_decide.2 cmpB_lt
          clear hr
          go_wp2
          go_ret
          exact ⟨ret_bool (by rw [HR3.out]; exact decide_eq_decide.2 (by omega)), HB2.out.low⟩
    · have HL : Hid (L = decide (eb < ed)) := HX.out.2.1 rfl h2
      have h2b : (eb != ed) = true := by simpa using h2
      go_wp2
      go_ret
      exact ⟨ret_bool HL.out.symm, HB2.out.low⟩
  · have HL : Hid (L = decide (ea < ec)) := HX.out.1 h1
    have h1b : (ea != ec) = true := by simpa using h1
    go_wp2
    go_ret
    exact ⟨ret_bool HL.out.symm, HB2.out.low⟩
end Go.Proofs.Ytegndeefddlccaa
