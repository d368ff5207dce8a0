/-
  Which of two paths stands ahead: in plain lists; the walks of rank, cmp.Compare, cmp.Or, compareColumns, end.
-/
import Derived.Test.YtegndeefddlccaaPwA
import Derived.Test.YtegndeefddlccaaPkA
import Derived.BigQuiet
import Derived.Deep.RegionHeld3
namespace Go.Proofs.Ytegndeefddlccaa
open Go.RowKit

def rankB (c : UInt8) : Int := if c = 77 then 0 else if c = 68 then 1 else if c = 73 then 2 else 3 + (c.toNat : Int)
def cmpB (a b : Int) : Int := if a < b then -1 else if b < a then 1 else 0
def colR : List UInt8 → List UInt8 → Int
  | [], [] => 0
  | [], _ :: _ => -1
  | _ :: _, [] => 1
  | a :: xs, b :: ys => if cmpB (rankB a) (rankB b) = 0 then colR xs ys else cmpB (rankB a) (rankB b)
def orB : List Int → Int
  | [] => 0
  | z :: zs => if z = 0 then orB zs else z
def endW : Int → Int → List UInt8 → Int × Int
  | i, j, [] => (i, j)
  | i, j, c :: cs => endW (wrap64 (i + dnB c)) (wrap64 (j + ovB c)) cs
def cmpP (p q : Pt) : Int := orB [cmpB (endW p.i p.j p.cols).1 (endW q.i q.j q.cols).1, cmpB (endW p.i p.j p.cols).2 (endW q.i q.j q.cols).2, colR p.cols.reverse q.cols.reverse]
theorem cmpB_rng (a b : Int) : -1 ≤ cmpB a b ∧ cmpB a b ≤ 1 := by unfold cmpB; repeat (first | omega | split)
theorem rankB_rng (c : UInt8) : 0 ≤ rankB c ∧ rankB c ≤ 258 := by
  have := c.toNat_lt
  unfold rankB
  repeat (first | omega | split)
set_option maxHeartbeats 400000 in
theorem rank_calls (c : UInt8) (w : World) : Calls Try.prog 67 #[.int .u8 c.toNat] w fun e w' => e = .returned (.int .i64 (rankB c)) ∧ w = w' := by
  have hc := c.toNat_lt
  have HR : Hid (rankB c = if c = 77 then 0 else if c = 68 then 1 else if c = 73 then 2 else 3 + (c.toNat : Int)) := rfl
  by_cases h1 : c = 77
  · subst h1
    go_enter Try.func67, Try.ntmps67
    go_wp2
    go_ret
    exact ⟨rfl, rfl⟩
  · have h1b := u8_77 h1
    by_cases h2 : c = 68
    · subst h2
      go_enter Try.func67, Try.ntmps67
      go_wp2
      go_ret
      exact ⟨rfl, rfl⟩
    · have h2b := u8_68 h2
      by_cases h3 : c = 73
      · subst h3
        go_enter Try.func67, Try.ntmps67
        go_wp2
        go_ret
        exact ⟨rfl, rfl⟩
      · have h3b := u8_73 h3
        go_enter Try.func67, Try.ntmps67
        go_wp2
        go_ret
        exact ⟨ret_int (by rw [HR.out, if_neg h1, if_neg h2, if_neg h3]), rfl⟩
set_option maxHeartbeats 400000 in
theorem nan_calls (x : Int) (w : World) : Calls Try.prog 66 #[.int .i64 x] w fun e w' => e = .returned (.bool false) ∧ w = w' := by
  have hx : (x != x) = false := by simp
  go_enter Try.func66, Try.ntmps66
  go_wp2
  go_ret
  exact ⟨rfl, rfl⟩
set_option maxHeartbeats 400000 in
theorem compare_calls (a b : Int) (w : World) : Calls Try.prog 60 #[.int .i64 a, .int .i64 b] w fun e w' => e = .returned (.int .i64 (cmpB a b)) ∧ w = w' := by
  have HC : Hid (cmpB a b = if a < b then -1 else if b < a then 1 else 0) := rfl
  by_cases h1 : a < b
  · go_enter Try.func60, Try.ntmps60
    go_wp2_with (go_at_call 66; refine (nan_calls _ _).mono ?_; rintro e w' ⟨rfl, rfl⟩)
    go_ret
    exact ⟨ret_int (by rw [HC.out, if_pos h1]), rfl⟩
  · by_cases h2 : b < a
    · go_enter Try.func60, Try.ntmps60
      go_wp2_with (go_at_call 66; refine (nan_calls _ _).mono ?_; rintro e w' ⟨rfl, rfl⟩)
      go_ret
      exact ⟨ret_int (by rw [HC.out, if_neg (by omega), if_pos h2]), rfl⟩
    · go_enter Try.func60, Try.ntmps60
      go_wp2_with (go_at_call 66; refine (nan_calls _ _).mono ?_; rintro e w' ⟨rfl, rfl⟩)
      go_ret
      exact ⟨ret_int (by rw [HC.out, if_neg (by omega), if_neg (by omega)]), rfl⟩
theorem orB_drop {zs : List Int} {k : Nat} (hk : k < zs.length) : orB (zs.drop k) = if zs.getD k 0 = 0 then orB (zs.drop (k + 1)) else zs.getD k 0 := by
  rw [List.drop_eq_getElem_cons hk, orB]
  simp [List.getD, List.getElem?_eq_getElem hk]
set_option maxHeartbeats 400000 in
theorem or_calls (ao : Option Addr) (len cap : Nat) (zs : List Int) (w : World) (hz : IntsAt w ao len zs) : Calls Try.prog 59 #[.slice ao len cap] w fun e w' => e = .returned (.int .i64 (orB zs)) ∧ w = w' := by
  have hm := hz.short
  unfold maxLen at hm
  have HZ : Hid (IntsAt w ao len zs) := hz
  clear hz
  go_enter Try.func59, Try.ntmps59
  go_wp2
  go_loop [8] (fun i => ∃ k : Nat, k ≤ len ∧ i = .int .i64 k ∧ orB zs = orB (zs.drop k)) (fun i => len - (intOf i).toNat)
  case atStart => exact ⟨0, Nat.zero_le _, rfl, rfl⟩
  case round =>
    obtain ⟨k, hk, rfl, ho⟩ := hrel
    by_cases hlt : k < len
    · obtain ⟨b, off, rfl, hcs⟩ := HZ.out.cells (by omega)
      have hc1 := hcs k hlt
      rw [orB_drop (by rw [HZ.out.length]; exact hlt)] at ho
      obtain ⟨z, hz⟩ : ∃ z, zs.getD k 0 = z := ⟨_, rfl⟩
      rw [hz] at hc1 ho
      clear hcs hz
      by_cases h0 : z = 0
      · subst h0
        rw [if_pos rfl] at ho
        have HO : Hid (orB zs = orB (zs.drop (k + 1))) := ho
        clear ho
        go_wp2
        go_round
        case rel => exact ⟨k + 1, by omega, by go_num, HO.out⟩
        case measure => simp [intOf]; omega
      · rw [if_neg h0] at ho
        have HO : Hid (orB zs = z) := ho
        have h0b : (z != 0) = true := by simpa using h0
        clear ho
        go_wp2
        go_ret
        exact ⟨ret_int HO.out.symm, rfl⟩
    · have HO : Hid (orB zs = 0) := by
        have := ho
        rw [List.drop_eq_nil_of_le (by rw [HZ.out.length]; omega)] at this
        exact this
      clear ho
      go_wp2
      go_ret
      exact ⟨ret_int HO.out.symm, rfl⟩
theorem endW_drop {i j : Int} {cols : List UInt8} {k : Nat} {c : UInt8} (h : cols[k]? = some c) : endW i j (cols.drop k) = endW (wrap64 (i + dnB c)) (wrap64 (j + ovB c)) (cols.drop (k + 1)) := by
  have hk := (List.getElem?_eq_some_iff.1 h).1
  rw [List.drop_eq_getElem_cons hk, (List.getElem?_eq_some_iff.1 h).2, endW]
theorem tup_eq {a b c d : Int} (h : (a, b) = (c, d)) : Ending.returned (.tuple #[.int .i64 a, .int .i64 b]) = .returned (.tuple #[.int .i64 c, .int .i64 d]) := by cases h; rfl
set_option maxHeartbeats 1000000 in
theorem end_calls (i j : Int) (s : ByteArray) (w : World) (hs : s.size ≤ maxLen) : Calls Try.prog 58 #[.agg #[.int .i64 i, .int .i64 j, .string s]] w fun e w' => e = .returned (.tuple #[.int .i64 (endW i j s.data.toList).1, .int .i64 (endW i j s.data.toList).2]) ∧ Below w.heap.size w w' := by
  unfold maxLen at hs
  obtain ⟨ei, ej, hE⟩ : ∃ ei ej, endW i j (s.data.toList.drop 0) = (ei, ej) := ⟨_, _, rfl⟩
  have HE : Hid (endW i j s.data.toList = (ei, ej)) := hE
  have HB0 : Hid (Below w.heap.size w (w.alloc (.cells #[.int .i64 i, .int .i64 j, .string s] 33)) ∧ (w.alloc (.cells #[.int .i64 i, .int .i64 j, .string s] 33)).heap[w.heap.size]? = some (.cells #[.int .i64 i, .int .i64 j, .string s] 33 (0, 0))) := ⟨bl1 _ _, hp_at rfl⟩
  have c0 := cell_block HB0.out.2 0 (.int .i64 i) rfl
  have c1 := cell_block HB0.out.2 1 (.int .i64 j) rfl
  have c2 := cell_block HB0.out.2 2 (.string s) rfl
  rw [show (endW i j s.data.toList) = (ei, ej) from HE.out]
  go_enter Try.func58, Try.ntmps58
  go_wp2
  go_quiet (fail)
  have HB1 : Hid (Below w.heap.size w ((w.alloc (.cells #[.int .i64 i, .int .i64 j, .string s] 33)).drewN nq) ∧ ((w.alloc (.cells #[.int .i64 i, .int .i64 j, .string s] 33)).drewN nq).heap[w.heap.size]? = some (.cells #[.int .i64 i, .int .i64 j, .string s] 33 (0, 0))) := ⟨below_drewN HB0.out.1 nq, HB0.out.2⟩
  generalize (w.alloc (.cells #[.int .i64 i, .int .i64 j, .string s] 33)).drewN nq = w1 at HB1 ⊢
  clear c0 c1 c2 HB0
  have c2 := cell_block HB1.out.2 2 (.string s) rfl
  go_wp2
  go_loop [4, 5, 16] (fun x y k => ∃ (q : Nat) (a b : Int), q ≤ s.size ∧ k = .int .i64 q ∧ x = .int .i64 a ∧ y = .int .i64 b ∧ endW a b (s.data.toList.drop q) = (ei, ej)) (fun _ _ k => s.size - (intOf k).toNat)
  case atStart => exact ⟨0, i, j, Nat.zero_le _, rfl, rfl, rfl, hE⟩
  case round =>
    clear hE
    obtain ⟨q, a, b, hq, rfl, rfl, rfl, hr⟩ := hrel
    by_cases hql : q < s.size
    · obtain ⟨c, hcq⟩ : ∃ c, s[q] = c := ⟨_, rfl⟩
      have hg : s.data.toList[q]? = some c := by rw [← hcq]; exact ba_list s q hql
      rw [endW_drop hg] at hr
      have HR : Hid (endW (wrap64 (a + dnB c)) (wrap64 (b + ovB c)) (s.data.toList.drop (q + 1)) = (ei, ej)) := hr
      have HQ : Hid (s[q] = c) := hcq
      clear hr hg hcq
      go_wp2_with fail
      rw [HQ.out]
      refine (step_calls c _).mono ?_
      rintro e w3 ⟨rfl, rfl⟩
      go_wp2
      go_round
      case rel => exact ⟨q + 1, wrap64 (a + dnB c), wrap64 (b + ovB c), by omega, by go_num, rfl, rfl, HR.out⟩
      case measure => simp [intOf]; omega
    · have HR : Hid ((a, b) = (ei, ej)) := by
        have := hr
        rw [List.drop_eq_nil_of_le (by rw [ba_size]; omega)] at this
        exact this
      clear hr
      go_wp2
      go_ret2
      exact ⟨tup_eq HR.out, HB1.out.1⟩
end Go.Proofs.Ytegndeefddlccaa
