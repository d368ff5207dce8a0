/-
  Which of two paths stands ahead: the walks of compareColumns, compare, Less.
-/
import Derived.Test.YtegndeefddlccaaPyA
namespace Go.Proofs.Ytegndeefddlccaa
open Go.RowKit

theorem colR_nil_l (b : List UInt8) : colR [] b = cmpB 0 (b.length : Int) := by
  cases b with
  | nil => rfl
  | cons x y =>
    unfold colR cmpB
    rw [if_pos (by simp only [List.length_cons]; omega)]
theorem colR_nil_r (a : List UInt8) : colR a [] = cmpB (a.length : Int) 0 := by
  cases a with
  | nil => rfl
  | cons x y =>
    unfold colR cmpB
    rw [if_neg (by simp only [List.length_cons]; omega), if_pos (by simp only [List.length_cons]; omega)]
theorem cmpB_shift (a b q : Int) : cmpB (a - q) (b - q) = cmpB a b := by unfold cmpB; repeat (first | omega | split)
theorem rev_drop {a : List UInt8} {q : Nat} (h : q < a.length) : a.reverse.drop q = a[a.length - 1 - q]'(by omega) :: a.reverse.drop (q + 1) := by
  rw [List.drop_eq_getElem_cons (by simpa using h)]
  simp [List.getElem_reverse]
theorem ba_get (s : ByteArray) (k : Nat) (h : k < s.size) (h2 : k < s.data.toList.length) : s.data.toList[k] = s[k] := by
  have := ba_list s k h
  rw [List.getElem?_eq_getElem h2] at this
  exact Option.some.inj this
theorem colR_step {s t : ByteArray} {q : Nat} (hs : q < s.size) (ht : q < t.size) :
    colR (s.data.toList.reverse.drop q) (t.data.toList.reverse.drop q) = if cmpB (rankB (s[s.size - 1 - q]'(by omega))) (rankB (t[t.size - 1 - q]'(by omega))) = 0 then colR (s.data.toList.reverse.drop (q + 1)) (t.data.toList.reverse.drop (q + 1)) else cmpB (rankB (s[s.size - 1 - q]'(by omega))) (rankB (t[t.size - 1 - q]'(by omega))) := by
  rw [rev_drop (a := s.data.toList) (by rw [ba_size]; exact hs), rev_drop (a := t.data.toList) (by rw [ba_size]; exact ht), colR]
  have e1 : s.data.toList[s.data.toList.length - 1 - q]'(by rw [ba_size]; omega) = s[s.size - 1 - q]'(by omega) := by
    rw [ba_get s _ (by rw [ba_size]; omega)]
    simp only [ba_size]
  have e2 : t.data.toList[t.data.toList.length - 1 - q]'(by rw [ba_size]; omega) = t[t.size - 1 - q]'(by omega) := by
    rw [ba_get t _ (by rw [ba_size]; omega)]
    simp only [ba_size]
  rw [e1, e2]
theorem colR_end {s t : ByteArray} {q : Nat} (hq1 : q ≤ s.size) (hq2 : q ≤ t.size) (h : ¬ (q < s.size ∧ q < t.size)) : colR (s.data.toList.reverse.drop q) (t.data.toList.reverse.drop q) = cmpB (s.size : Int) (t.size : Int) := by
  by_cases hs : q < s.size
  · have hn : t.data.toList.reverse.drop q = [] := List.drop_eq_nil_of_le (by simp only [List.length_reverse, ba_size]; omega)
    rw [hn, colR_nil_r]
    simp only [List.length_drop, List.length_reverse, ba_size]
    rw [← cmpB_shift (s.size : Int) (t.size : Int) (t.size : Int)]
    congr 1 <;> omega
  · have hn : s.data.toList.reverse.drop q = [] := List.drop_eq_nil_of_le (by simp only [List.length_reverse, ba_size]; omega)
    rw [hn, colR_nil_l]
    simp only [List.length_drop, List.length_reverse, ba_size]
    rw [← cmpB_shift (s.size : Int) (t.size : Int) (s.size : Int)]
    congr 1 <;> omega
theorem drewN_add (w : World) (a b : Nat) : (w.drewN a).drewN b = w.drewN (a + b) := by
  simp [World.drewN, Nat.add_assoc]
set_option maxHeartbeats 1000000 in
theorem columns_calls (s t : ByteArray) (w : World) (hs : s.size ≤ 140737488351232) (ht : t.size ≤ 140737488351232) :
    Calls Try.prog 61 #[.string s, .string t] w fun e w' => e = .returned (.int .i64 (colR s.data.toList.reverse t.data.toList.reverse)) ∧ ∃ n, w' = w.drewN n := by
  obtain ⟨R, hR⟩ : ∃ R, colR s.data.toList.reverse t.data.toList.reverse = R := ⟨_, rfl⟩
  rw [hR]
  obtain ⟨mn, hmn⟩ : ∃ mn, min (s.size : Int) (t.size : Int) = mn := ⟨_, rfl⟩
  have hmi : ∀ ts ty (W : World), (Builtin.min_ ts ty #[.int .i64 (s.size : Int), .int .i64 (t.size : Int)]).run Try.prog W = .ok (.int .i64 mn) W := fun ts ty W => by rw [min2', hmn]
  have hmr : mn ≤ s.size ∧ mn ≤ t.size ∧ ((mn : Int) = s.size ∨ mn = t.size) := by omega
  clear hmn
  go_enter Try.func61, Try.ntmps61
  go_wp2
  go_loopw [5] (fun n wr => ∃ q : Nat, (q : Int) ≤ mn ∧ n = .int .i64 ((q : Int) + 1) ∧ R = colR (s.data.toList.reverse.drop q) (t.data.toList.reverse.drop q) ∧ ∃ n, wr = w.drewN n) (fun n _ => (mn + 1 - intOf n).toNat)
  case atStart => exact ⟨0, by omega, rfl, by rw [← hR]; rfl, 0, rfl⟩
  case round =>
    clear hR
    obtain ⟨q, hq, rfl, hr, hb⟩ := hrel
    have HX : Hid (∃ n, wr = w.drewN n) := hb
    clear hb
    by_cases hlt : (q : Int) < mn
    · have hqs : q < s.size := by omega
      have hqt : q < t.size := by omega
      rw [colR_step hqs hqt] at hr
      obtain ⟨ka, eka⟩ : ∃ ka, s.size - 1 - q = ka := ⟨_, rfl⟩
      obtain ⟨kb, ekb⟩ : ∃ kb, t.size - 1 - q = kb := ⟨_, rfl⟩
      simp only [eka, ekb] at hr
      have hka : (s.size : Int) - ((q : Int) + 1) = (ka : Int) := by omega
      have hkb : (t.size : Int) - ((q : Int) + 1) = (kb : Int) := by omega
      have hla : (ka : Int) < (s.size : Int) := by omega
      have hlb : (kb : Int) < (t.size : Int) := by omega
      have hla2 : ka < s.size := by omega
      have hlb2 : kb < t.size := by omega
      have hwa : IntKind.i64.wrap (ka : Int) = (ka : Int) := (IntWalk.i64_left _).trans (by unfold wrap64; omega)
      have hwb : IntKind.i64.wrap (kb : Int) = (kb : Int) := (IntWalk.i64_left _).trans (by unfold wrap64; omega)
      obtain ⟨cv, hcv⟩ : ∃ cv, cmpB (rankB (s[ka]'hla2)) (rankB (t[kb]'hlb2)) = cv := ⟨_, rfl⟩
      rw [hcv] at hr
      have HCV : Hid (cmpB (rankB (s[ka]'hla2)) (rankB (t[kb]'hlb2)) = cv) := hcv
      have HR2 : Hid (R = if cv = 0 then colR (s.data.toList.reverse.drop (q + 1)) (t.data.toList.reverse.drop (q + 1)) else cv) := hr
      clear hr hcv eka ekb
      go_wp2_with fail
      go_quiet (first | (go_at_call 67; exact Calls.quiet_of_same ((rank_calls _ _).mono (fun _ _ h => ⟨h.1, h.2.symm⟩))) | (go_at_call 60; exact Calls.quiet_of_same ((compare_calls _ _ _).mono (fun _ _ h => ⟨h.1, h.2.symm⟩))))
      rw [HCV.out]
      have HX2 : Hid (∃ n, wr.drewN nq = w.drewN n) := by
        obtain ⟨n, hn⟩ := HX.out
        exact ⟨n + nq, by rw [hn, drewN_add]⟩
      by_cases h0 : cv = 0
      · subst h0
        have HR3 := HR2.out
        rw [if_pos rfl] at HR3
        have HR4 : Hid (R = colR (s.data.toList.reverse.drop (q + 1)) (t.data.toList.reverse.drop (q + 1))) := HR3
        clear HR3 HR2
        go_wp2
        go_roundw
        case rel => exact ⟨q + 1, by omega, by go_num, HR4.out, HX2.out⟩
        case measure => simp [intOf]; omega
      · have HR3 := HR2.out
        rw [if_neg h0] at HR3
        have HR4 : Hid (R = cv) := HR3
        have h0b : (cv != 0) = true := by simpa using h0
        clear HR3 HR2
        go_wp2
        go_ret
        exact ⟨ret_int HR4.out.symm, HX2.out⟩
    · have HE : Hid (R = cmpB (s.size : Int) (t.size : Int)) := by rw [hr]; exact colR_end (by omega) (by omega) (by omega)
      clear hr
      go_wp2_with (go_at_call 60; refine (compare_calls _ _ _).mono ?_; rintro e w' ⟨rfl, rfl⟩)
      go_ret
      exact ⟨ret_int HE.out.symm, HX.out⟩

theorem ints3 (W : World) (g : Nat) (a b c : Int) (h : W.heap[g]? = some (.cells #[.int .i64 a, .int .i64 b, .int .i64 c] 3 (0, 0))) : IntsAt W (some ⟨g, 0, none⟩) 3 [a, b, c] := ints_new (zs := [a, b, c]) h rfl (by unfold maxLen; simp)
structure P2 (w : World) (pa pb : Array Value) (wr : World) : Prop where
  low : Below w.heap.size w wr
  a : wr.heap[w.heap.size]? = some (.cells pa 33 (0, 0))
  b : wr.heap[w.heap.size + 1]? = some (.cells pb 33 (0, 0))
theorem P2.start (w : World) (pa pb : Array Value) : P2 w pa pb ((w.alloc (.cells pa 33)).alloc (.cells pb 33)) :=
  ⟨((Below.refl _ w).alloc (Nat.le_refl _) _).alloc (by simp) _, hp_old (hp_at rfl), hp_at (by simp)⟩
theorem P2.next {w : World} {pa pb : Array Value} {wr w2 : World} (h : P2 w pa pb wr) (hb : Below wr.heap.size wr w2) : P2 w pa pb w2 :=
  ⟨h.low.trans (hb.mono h.low.size), (Fr.of_below (O := fun _ => False) hb).heap h.a (fun h => h), (Fr.of_below (O := fun _ => False) hb).heap h.b (fun h => h)⟩
set_option maxRecDepth 20000 in
set_option maxHeartbeats 2000000 in
theorem cmpP_calls (i j k l : Int) (s t : ByteArray) (w : World) (hs : s.size ≤ 140737488351232) (ht : t.size ≤ 140737488351232) :
    Calls Try.prog 38 #[.agg #[.int .i64 i, .int .i64 j, .string s], .agg #[.int .i64 k, .int .i64 l, .string t]] w fun e w' => e = .returned (.int .i64 (cmpP ⟨i, j, s.data.toList⟩ ⟨k, l, t.data.toList⟩)) ∧ Below w.heap.size w w' := by
  have HS : Hid (s.size ≤ 140737488351232 ∧ t.size ≤ 140737488351232) := ⟨hs, ht⟩
  clear hs ht
  have HB0 : Hid (P2 w #[.int .i64 i, .int .i64 j, .string s] #[.int .i64 k, .int .i64 l, .string t] ((w.alloc (.cells #[.int .i64 i, .int .i64 j, .string s] 33)).alloc (.cells #[.int .i64 k, .int .i64 l, .string t] 33))) := P2.start w _ _
  go_enter Try.func38, Try.ntmps38
  go_wp2_with fail
  refine (end_calls i j s _ (by unfold maxLen; have := HS.out.1; omega)).mono ?_
  rintro e w1 ⟨rfl, hb1⟩
  have HB1 : Hid (P2 w #[.int .i64 i, .int .i64 j, .string s] #[.int .i64 k, .int .i64 l, .string t] w1) := HB0.out.next hb1
  clear hb1 HB0
  have c0 := cell_block HB1.out.b 0 (.int .i64 k) rfl
  have c1 := cell_block HB1.out.b 1 (.int .i64 l) rfl
  have c2 := cell_block HB1.out.b 2 (.string t) rfl
  obtain ⟨ea, eb, hE1⟩ : ∃ ea eb, endW i j s.data.toList = (ea, eb) := ⟨_, _, rfl⟩
  rw [hE1]
  go_wp2_with fail
  refine (end_calls k l t _ (by unfold maxLen; have := HS.out.2; omega)).mono ?_
  rintro e w2 ⟨rfl, hb2⟩
  have HB2 : Hid (P2 w #[.int .i64 i, .int .i64 j, .string s] #[.int .i64 k, .int .i64 l, .string t] w2) := HB1.out.next hb2
  clear hb2 HB1 c0 c1 c2
  have a2 := cell_block HB2.out.a 2 (.string s) rfl
  have b2 := cell_block HB2.out.b 2 (.string t) rfl
  obtain ⟨ec, ed, hE2⟩ : ∃ ec ed, endW k l t.data.toList = (ec, ed) := ⟨_, _, rfl⟩
  rw [hE2]
  have HC : Hid (cmpP ⟨i, j, s.data.toList⟩ ⟨k, l, t.data.toList⟩ = orB [cmpB ea ec, cmpB eb ed, colR s.data.toList.reverse t.data.toList.reverse]) := by
    show _ = _
    unfold cmpP
    simp only [hE1, hE2]
  clear hE1 hE2
  have C61 : Hid (∀ W, Calls Try.prog 61 #[.string s, .string t] W fun e w' => e = .returned (.int .i64 (colR s.data.toList.reverse t.data.toList.reverse)) ∧ ∃ n, w' = W.drewN n) := fun W => columns_calls s t W HS.out.1 HS.out.2
  obtain ⟨x1, hx1⟩ : ∃ x1, cmpB ea ec = x1 := ⟨_, rfl⟩
  obtain ⟨x2, hx2⟩ : ∃ x2, cmpB eb ed = x2 := ⟨_, rfl⟩
  obtain ⟨x3, hx3⟩ : ∃ x3, colR s.data.toList.reverse t.data.toList.reverse = x3 := ⟨_, rfl⟩
  rw [hx3] at C61
  rw [hx1, hx2, hx3] at HC
  have C1 : Hid (∀ W, Calls Try.prog 60 #[.int .i64 ea, .int .i64 ec] W fun e w' => e = .returned (.int .i64 x1) ∧ W = w') := fun W => by rw [← hx1]; exact compare_calls ea ec W
  have C2 : Hid (∀ W, Calls Try.prog 60 #[.int .i64 eb, .int .i64 ed] W fun e w' => e = .returned (.int .i64 x2) ∧ W = w') := fun W => by rw [← hx2]; exact compare_calls eb ed W
  have C59 : Hid (∀ n : Nat, Calls Try.prog 59 #[.slice (some ⟨w2.heap.size, 0, none⟩) 3 3] ((w2.drewN n).alloc (.cells #[.int .i64 x1, .int .i64 x2, .int .i64 x3] 3)) fun e w' => e = .returned (.int .i64 (orB [x1, x2, x3])) ∧ (w2.drewN n).alloc (.cells #[.int .i64 x1, .int .i64 x2, .int .i64 x3] 3) = w') := fun n => or_calls _ 3 3 [x1, x2, x3] _ (ints3 _ _ _ _ _ (hp_at rfl))
  clear hx1 hx2 hx3
  go_wp2_with fail
  have hSd : ∀ (W : World) (n : Nat), (W.cell? ⟨w.heap.size, 2, none⟩ = some (.string s) ∧ W.cell? ⟨w.heap.size + 1, 2, none⟩ = some (.string t)) → ((W.drewN n).cell? ⟨w.heap.size, 2, none⟩ = some (.string s) ∧ (W.drewN n).cell? ⟨w.heap.size + 1, 2, none⟩ = some (.string t)) := fun _ _ h => h
  go_region_held3 (fun W => W.cell? ⟨w.heap.size, 2, none⟩ = some (.string s) ∧ W.cell? ⟨w.heap.size + 1, 2, none⟩ = some (.string t)) (first | with_reducible assumption | exact ⟨by assumption, by assumption⟩ | exact hSd _ _ (by assumption) | exact ⟨a2, b2⟩ | exact ⟨cell_alloc_old (by exact a2), cell_alloc_old (by exact b2)⟩) (first | (go_at_call 60; first | (with_reducible refine (C1.out _).mono ?_; rintro e w' ⟨rfl, rfl⟩) | (with_reducible refine (C2.out _).mono ?_; rintro e w' ⟨rfl, rfl⟩)) | (go_at_call 61; with_reducible refine (C61.out _).mono ?_; rintro e w' ⟨rfl, n, rfl⟩) | (go_at_call 59; with_reducible refine (C59.out _).mono ?_; rintro e w' ⟨rfl, rfl⟩))
  go_wp2
  go_ret
  have hlow := below_drewN HB2.out.low (1 + n)
  exact ⟨ret_int HC.out.symm, hlow.alloc hlow.size _⟩
def lessB (p q : Pt) : Bool := decide (cmpP p q < 0)
set_option maxHeartbeats 1000000 in
theorem less_calls (i j k l : Int) (s t : ByteArray) (w : World) (hs : s.size ≤ 140737488351232) (ht : t.size ≤ 140737488351232) :
    Calls Try.prog 21 #[.agg #[.int .i64 i, .int .i64 j, .string s], .agg #[.int .i64 k, .int .i64 l, .string t]] w fun e w' => e = .returned (.bool (lessB ⟨i, j, s.data.toList⟩ ⟨k, l, t.data.toList⟩)) ∧ Below w.heap.size w w' := by
  have HB0 : Hid (P2 w #[.int .i64 i, .int .i64 j, .string s] #[.int .i64 k, .int .i64 l, .string t] ((w.alloc (.cells #[.int .i64 i, .int .i64 j, .string s] 33)).alloc (.cells #[.int .i64 k, .int .i64 l, .string t] 33))) := P2.start w _ _
  go_enter Try.func21, Try.ntmps21
  go_wp2_with fail
  refine (cmpP_calls i j k l s t _ hs ht).mono ?_
  rintro e w1 ⟨rfl, hb1⟩
  have HB1 : Hid (Below w.heap.size w w1) := (HB0.out.next hb1).low
  clear hb1
  go_wp2
  go_ret
  exact ⟨rfl, HB1.out⟩
end Go.Proofs.Ytegndeefddlccaa
