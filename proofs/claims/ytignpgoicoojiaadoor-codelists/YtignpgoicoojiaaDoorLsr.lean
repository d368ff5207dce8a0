/-
  The walks of the document's Digits, named, line, List.
-/
import Derived.Test.YtignpgoicoojiaaDoorLsu
import Derived.Test.YtignpgoicoojiaaDoorRtC
namespace Go.Proofs.YtignpgoicoojiaaDoor
open Go.RowKit

def digS (d : Nat) : ByteArray := ⟨#[UInt8.ofNat (48 + d)]⟩
theorem digS_cut : ∀ d, d < 10 → (⟨#[48, 49, 50, 51, 52, 53, 54, 55, 56, 57]⟩ : ByteArray).extract d (d + 1) = digS d
  | 0, _ | 1, _ | 2, _ | 3, _ | 4, _ | 5, _ | 6, _ | 7, _ | 8, _ | 9, _ => rfl
  | d + 10, h => absurd h (by omega)
theorem run_dig (n : Nat) (W : World) : (Instr.slice 9 (.string ⟨#[48, 49, 50, 51, 52, 53, 54, 55, 56, 57]⟩) (some (.int .i64 ((n : Int) % 10))) (some (.int .i64 ((n : Int) % 10 + 1))) none).run Tryd.prog W = .ok (.string (digS (n % 10))) W := by
  have hs : (⟨#[48, 49, 50, 51, 52, 53, 54, 55, 56, 57]⟩ : ByteArray).size = 10 := rfl
  rw [run_slice_string W 9 _ .i64 .i64 _ _ Tryd.underlying9 (by omega) (by omega) (by rw [hs]; omega)]
  have e1 : ((n : Int) % 10).toNat = n % 10 := by omega
  have e2 : ((n : Int) % 10 + 1).toNat = n % 10 + 1 := by omega
  rw [e1, e2, digS_cut _ (Nat.mod_lt _ (by decide))]
theorem dec_step {n : Nat} (h : ¬ n < 10) : Lib.decDigits n = Lib.decDigits (n / 10) ++ [UInt8.ofNat (48 + n % 10)] := by
  rw [Lib.decDigits, dif_neg h]
/-- What is still to be written of a number, ahead of what is written. -/
def digRest (m : Nat) : List UInt8 := if m = 0 then [] else Lib.decDigits m
theorem digRest_first (N : Nat) : digRest (N / 10) ++ [UInt8.ofNat (48 + N % 10)] = Lib.decDigits N := by
  unfold digRest
  by_cases h : N < 10
  · rw [if_pos (by omega), Lib.decDigits, dif_pos h, Nat.mod_eq_of_lt h]; rfl
  · rw [if_neg (by omega), dec_step h]
theorem digRest_step {m : Nat} (h : 0 < m) : digRest (m / 10) ++ [UInt8.ofNat (48 + m % 10)] = digRest m := by
  rw [digRest_first]
  unfold digRest
  rw [if_neg (by omega)]

set_option maxHeartbeats 1000000 in
theorem digits_calls (N : Nat) (w : World) (hN : N ≤ 131072) :
    Calls Tryd.prog 50 #[.int .i64 (N : Int)] w fun e w' => ∃ t : ByteArray, e = .returned (.string t) ∧ t.data.toList = Lib.decDigits N ∧ w' = w := by
  have hcut := run_dig N
  have hlen : (Lib.decDigits N).length ≤ 22 := by
    have := Lib.itoa_length_le (N : Int) (by omega) (by omega)
    rw [Lib.itoa_nonneg] at this; omega
  have HFirst : Hid (digRest (N / 10) ++ (digS (N % 10)).data.toList = Lib.decDigits N) := digRest_first N
  generalize Lib.decDigits N = D at *
  generalize digS (N % 10) = t0 at *
  go_enter Tryd.func50, Tryd.ntmps50
  go_wp2
  clear hcut
  go_loop [0, 3] (fun a s => ∃ (m : Nat) (t : ByteArray), m ≤ 131072 ∧ a = .int .i64 m ∧ s = .string t ∧ Hid (digRest m ++ t.data.toList = D)) (fun a _ => (intOf a).toNat)
  case atStart => exact ⟨N / 10, t0, by omega, by go_num, rfl, HFirst.out⟩
  case round =>
    obtain ⟨m, t, hm, rfl, rfl, HD⟩ := hrel
    by_cases h0 : 0 < m
    · have hcut := run_dig m
      have hdm : decide ((0 : Int) < (m : Int)) = true := by simp; omega
      have hm0 : ¬ m = 0 := by omega
      have hts : t.size ≤ 22 := by
        have := congrArg List.length HD.out
        simp at this; omega
      have hsz : (digS (m % 10)).size = 1 := rfl
      have HN : Hid (digRest (m / 10) ++ (digS (m % 10) ++ t).data.toList = D) := by
        show _ = _
        rw [ba_append, ← List.append_assoc, show (digS (m % 10)).data.toList = [UInt8.ofNat (48 + m % 10)] from rfl, digRest_step h0]
        exact HD.out
      have hcat : ∀ W, (Op.stringOp .add (digS (m % 10)) t).run Tryd.prog W = .ok (.string (digS (m % 10) ++ t)) W := fun W => run_string_add_sum W _ _ (by rw [hsz]; omega)
      clear hsz HD
      generalize digS (m % 10) = t1 at *
      go_wp2
      go_round
      case rel => exact ⟨m / 10, _, by omega, by go_num, rfl, HN.out⟩
      case measure => simp [intOf]; omega
    · have h0' : m = 0 := by omega
      subst h0'
      go_wp2
      go_ret
      exact ⟨t, rfl, HD.out, rfl⟩

theorem digitsS (n : Nat) (w : World) (h : n ≤ 131072) : StrC 50 #[.int .i64 (n : Int)] (Lib.itoa (n : Int)) w := by
  refine (digits_calls n w h).mono ?_
  rintro e w' ⟨t, rfl, ht, rfl⟩
  exact ⟨t, rfl, by rw [ht, Lib.itoa_nonneg], Below.refl _ _⟩
theorem nameB_in (l : List (List UInt8)) (n : Nat) (h : n < 4) : nameB l (n : Int) = l.getD n [] := by
  rw [nameB, if_pos (by omega)]; simp
theorem nameB_out (l : List (List UInt8)) (n : Nat) (h : ¬ n < 4) : nameB l (n : Int) = Lib.itoa (n : Int) := by
  rw [nameB, if_neg (by omega)]

set_option maxHeartbeats 1000000 in
theorem named_calls (g : Nat) (t0 t1 t2 t3 : ByteArray) (n : Nat) (w : World) (hn : n ≤ 65535) (h : w.heap[g]? = some (.cells #[.string t0, .string t1, .string t2, .string t3] 9 (0, 0))) :
    StrC 51 #[.slice (some ⟨g, 0, none⟩) 4 4, .int .i64 (n : Int)] (nameB [t0.data.toList, t1.data.toList, t2.data.toList, t3.data.toList] (n : Int)) w := by
  have HD : Hid (StrC 50 #[.int .i64 (n : Int)] (Lib.itoa (n : Int)) w) := digitsS n w (by omega)
  have c0 : w.cell? ⟨g, 0, none⟩ = some (.string t0) := cell_block h 0 _ rfl
  have c1 : w.cell? ⟨g, 1, none⟩ = some (.string t1) := cell_block h 1 _ rfl
  have c2 : w.cell? ⟨g, 2, none⟩ = some (.string t2) := cell_block h 2 _ rfl
  have c3 : w.cell? ⟨g, 3, none⟩ = some (.string t3) := cell_block h 3 _ rfl
  clear h
  by_cases h4 : n < 4
  · have HE : Hid (nameB [t0.data.toList, t1.data.toList, t2.data.toList, t3.data.toList] (n : Int) = [t0.data.toList, t1.data.toList, t2.data.toList, t3.data.toList].getD n []) := nameB_in _ n h4
    unfold StrC
    clear HD
    match n, h4 with
    | 0, _ | 1, _ | 2, _ | 3, _ =>
      go_enter Tryd.func51, Tryd.ntmps51
      go_wp2
      go_ret
      exact ⟨_, rfl, by rw [HE.out]; rfl, Below.refl _ _⟩
    | k + 4, h => exact absurd h (by omega)
  · have HE : Hid (nameB [t0.data.toList, t1.data.toList, t2.data.toList, t3.data.toList] (n : Int) = Lib.itoa (n : Int)) := nameB_out _ n h4
    have hd : decide ((n : Int) < 4) = false := by simp; omega
    unfold StrC
    go_enter Tryd.func51, Tryd.ntmps51
    go_wp2_with fail
    refine HD.out.mono ?_
    rintro e w1 ⟨t, rfl, ht, hb⟩
    have HT : Hid (t.data.toList = Lib.itoa (n : Int) ∧ Below w.heap.size w w1) := ⟨ht, hb⟩
    clear ht hb HD
    go_wp2
    go_ret
    exact ⟨_, rfl, by rw [HE.out]; exact HT.out.1, HT.out.2⟩

set_option maxRecDepth 10000 in
set_option maxHeartbeats 4000000 in
theorem refLine_calls (o : Int) (x y z : Nat) (hx : x ≤ 65535) (hy : y ≤ 65535) (hz : z ≤ 65535) (w : World) : StrC 40 #[.agg #[.int .i64 o, .int .i64 (x : Int), .int .i64 (y : Int), .int .i64 (z : Int)]] (lineB (o, (x : Int), (y : Int), (z : Int))) w := by
  unfold StrC
  have HQ0 : Hid (QB w o x y z (w.alloc (.cells #[.int .i64 o, .int .i64 (x : Int), .int .i64 (y : Int), .int .i64 (z : Int)] 38))) := ⟨below_new _, heap_alloc_new w _⟩
  have fx : fitI (x : Int) := ⟨by omega, by omega⟩
  have fy : fitI (y : Int) := ⟨by omega, by omega⟩
  have fz : fitI (z : Int) := ⟨by omega, by omega⟩
  have hla := itoa_len fx
  have hlb := itoa_len fy
  have hlc := itoa_len fz
  have hlw := whereB_len fz
  have hls := stepB_len fz
  clear fx fy fz
  go_enter Tryd.func40, Tryd.ntmps40
  go_wp2_with fail
  refine (show StrC 50 #[.int .i64 (x : Int)] (Lib.itoa (x : Int)) _ from digitsS x _ (by omega)).mono ?_
  rintro e w1 ⟨ta, rfl, hta, hb⟩
  have HQ1 : Hid (QB w o x y z w1) := HQ0.out.next hb
  have hsa : ta.size ≤ 21 := by rw [← size_toList, hta]; exact hla
  have HTa : Hid (ta.data.toList = Lib.itoa (x : Int)) := hta
  clear hb hta HQ0
  have d2 : w1.cell? ⟨w.heap.size, 2, none⟩ = some (.int .i64 (y : Int)) := cell_block HQ1.out.box 2 _ rfl
  go_wp2_with fail
  refine (show StrC 50 #[.int .i64 (y : Int)] (Lib.itoa (y : Int)) _ from digitsS y _ (by omega)).mono ?_
  rintro e w2 ⟨tb, rfl, htb, hb⟩
  have HQ2 : Hid (QB w o x y z w2) := HQ1.out.next hb
  have hsb : tb.size ≤ 21 := by rw [← size_toList, htb]; exact hlb
  have HTb : Hid (tb.data.toList = Lib.itoa (y : Int)) := htb
  clear hb htb HQ1 d2
  have d3 : w2.cell? ⟨w.heap.size, 3, none⟩ = some (.int .i64 (z : Int)) := cell_block HQ2.out.box 3 _ rfl
  go_wp2_with fail
  refine (show StrC 50 #[.int .i64 (z : Int)] (Lib.itoa (z : Int)) _ from digitsS z _ (by omega)).mono ?_
  rintro e w3 ⟨tc, rfl, htc, hb⟩
  have HQ3 : Hid (QB w o x y z w3) := HQ2.out.next hb
  have hsc : tc.size ≤ 21 := by rw [← size_toList, htc]; exact hlc
  have HTc : Hid (tc.data.toList = Lib.itoa (z : Int)) := htc
  clear hb htc HQ2 d3
  have hlt3 : w.heap.size < w3.heap.size := lt_block HQ3.out.box
  have d3 : w3.cell? ⟨w.heap.size, 3, none⟩ = some (.int .i64 (z : Int)) := cell_block HQ3.out.box 3 _ rfl
  go_wp2_with fail
  refine (named_calls w3.heap.size ⟨#[97, 110, 121]⟩ ⟨#[114, 111, 119]⟩ ⟨#[99, 111, 108, 117, 109, 110]⟩ ⟨#[99, 111, 114, 110, 101, 114]⟩ z _ hz (heap_alloc_new w3 _)).mono ?_
  rintro e w4 ⟨tw, rfl, htw, hb⟩
  have HQ4 : Hid (QB w o x y z w4) := (HQ3.out.next (below_new _)).next hb
  have HTw : Hid (tw.data.toList = whereB (z : Int)) := htw
  have hsw : tw.size ≤ 21 := by rw [← size_toList, HTw.out]; exact hlw
  clear hb htw HQ3 d3
  have hlt4 : w.heap.size < w4.heap.size := lt_block HQ4.out.box
  have d3 : w4.cell? ⟨w.heap.size, 3, none⟩ = some (.int .i64 (z : Int)) := cell_block HQ4.out.box 3 _ rfl
  go_wp2_with fail
  refine (named_calls w4.heap.size ⟨#[104, 101, 114, 101]⟩ ⟨#[77]⟩ ⟨#[68]⟩ ⟨#[73]⟩ z _ hz (heap_alloc_new w4 _)).mono ?_
  rintro e w5 ⟨ts, rfl, hts, hb⟩
  have HQ5 : Hid (QB w o x y z w5) := (HQ4.out.next (below_new _)).next hb
  have HTs : Hid (ts.data.toList = stepB (z : Int)) := hts
  have hss : ts.size ≤ 21 := by rw [← size_toList, HTs.out]; exact hls
  clear hb hts HQ4 d3
  have d0 : w5.cell? ⟨w.heap.size, 0, none⟩ = some (.int .i64 o) := cell_block HQ5.out.box 0 _ rfl
  by_cases o1 : o = 1
  · have HE : Hid (lineB (o, (x : Int), (y : Int), (z : Int)) = [110, 111, 110, 101, 32, 114] ++ Lib.itoa (x : Int)) := by show _ = _; subst o1; rfl
    have b1 : (o == 1) = true := by simpa using o1
    clear o1
    have hz0 : (⟨#[110, 111, 110, 101, 32, 114]⟩ : ByteArray).size = 6 := rfl
    obtain ⟨c1, hl1, hs1, hr1⟩ := cat_ex ⟨#[110, 111, 110, 101, 32, 114]⟩ ta (by omega)
    have HL1 : Hid (c1.data.toList = (⟨#[110, 111, 110, 101, 32, 114]⟩ : ByteArray).data.toList ++ (ta : ByteArray).data.toList) := hl1
    clear hl1
    go_wp2
    go_ret
    exact ⟨_, rfl, by rw [HL1.out, HTa.out]; exact HE.out.symm, HQ5.out.low⟩
  have b1 : (o == 1) = false := by simpa using o1
  by_cases o2 : o = 2
  · have HE : Hid (lineB (o, (x : Int), (y : Int), (z : Int)) = [115, 116, 97, 114, 116, 32, 114] ++ Lib.itoa (x : Int) ++ [32, 99] ++ Lib.itoa (y : Int) ++ [32] ++ whereB (z : Int)) := by show _ = _; subst o2; rfl
    have b2 : (o == 2) = true := by simpa using o2
    clear o2
    have hz0 : (⟨#[115, 116, 97, 114, 116, 32, 114]⟩ : ByteArray).size = 7 := rfl
    have hz2 : (⟨#[32, 99]⟩ : ByteArray).size = 2 := rfl
    have hz4 : (⟨#[32]⟩ : ByteArray).size = 1 := rfl
    obtain ⟨c1, hl1, hs1, hr1⟩ := cat_ex ⟨#[115, 116, 97, 114, 116, 32, 114]⟩ ta (by omega)
    have HL1 : Hid (c1.data.toList = (⟨#[115, 116, 97, 114, 116, 32, 114]⟩ : ByteArray).data.toList ++ (ta : ByteArray).data.toList) := hl1
    clear hl1
    obtain ⟨c2, hl2, hs2, hr2⟩ := cat_ex c1 ⟨#[32, 99]⟩ (by omega)
    have HL2 : Hid (c2.data.toList = (c1 : ByteArray).data.toList ++ (⟨#[32, 99]⟩ : ByteArray).data.toList) := hl2
    clear hl2
    obtain ⟨c3, hl3, hs3, hr3⟩ := cat_ex c2 tb (by omega)
    have HL3 : Hid (c3.data.toList = (c2 : ByteArray).data.toList ++ (tb : ByteArray).data.toList) := hl3
    clear hl3
    obtain ⟨c4, hl4, hs4, hr4⟩ := cat_ex c3 ⟨#[32]⟩ (by omega)
    have HL4 : Hid (c4.data.toList = (c3 : ByteArray).data.toList ++ (⟨#[32]⟩ : ByteArray).data.toList) := hl4
    clear hl4
    obtain ⟨c5, hl5, hs5, hr5⟩ := cat_ex c4 tw (by omega)
    have HL5 : Hid (c5.data.toList = (c4 : ByteArray).data.toList ++ (tw : ByteArray).data.toList) := hl5
    clear hl5
    go_wp2
    go_ret
    exact ⟨_, rfl, by rw [HL5.out, HL4.out, HL3.out, HL2.out, HL1.out, HTa.out, HTb.out, HTw.out]; exact HE.out.symm, HQ5.out.low⟩
  have b2 : (o == 2) = false := by simpa using o2
  by_cases o3 : o = 3
  · have HE : Hid (lineB (o, (x : Int), (y : Int), (z : Int)) = [108, 111, 97, 100, 32, 114] ++ Lib.itoa (x : Int) ++ [32, 112] ++ Lib.itoa (y : Int) ++ [32] ++ stepB (z : Int)) := by show _ = _; subst o3; rfl
    have b3 : (o == 3) = true := by simpa using o3
    clear o3
    have hz0 : (⟨#[108, 111, 97, 100, 32, 114]⟩ : ByteArray).size = 6 := rfl
    have hz2 : (⟨#[32, 112]⟩ : ByteArray).size = 2 := rfl
    have hz4 : (⟨#[32]⟩ : ByteArray).size = 1 := rfl
    obtain ⟨c1, hl1, hs1, hr1⟩ := cat_ex ⟨#[108, 111, 97, 100, 32, 114]⟩ ta (by omega)
    have HL1 : Hid (c1.data.toList = (⟨#[108, 111, 97, 100, 32, 114]⟩ : ByteArray).data.toList ++ (ta : ByteArray).data.toList) := hl1
    clear hl1
    obtain ⟨c2, hl2, hs2, hr2⟩ := cat_ex c1 ⟨#[32, 112]⟩ (by omega)
    have HL2 : Hid (c2.data.toList = (c1 : ByteArray).data.toList ++ (⟨#[32, 112]⟩ : ByteArray).data.toList) := hl2
    clear hl2
    obtain ⟨c3, hl3, hs3, hr3⟩ := cat_ex c2 tb (by omega)
    have HL3 : Hid (c3.data.toList = (c2 : ByteArray).data.toList ++ (tb : ByteArray).data.toList) := hl3
    clear hl3
    obtain ⟨c4, hl4, hs4, hr4⟩ := cat_ex c3 ⟨#[32]⟩ (by omega)
    have HL4 : Hid (c4.data.toList = (c3 : ByteArray).data.toList ++ (⟨#[32]⟩ : ByteArray).data.toList) := hl4
    clear hl4
    obtain ⟨c5, hl5, hs5, hr5⟩ := cat_ex c4 ts (by omega)
    have HL5 : Hid (c5.data.toList = (c4 : ByteArray).data.toList ++ (ts : ByteArray).data.toList) := hl5
    clear hl5
    go_wp2
    go_ret
    exact ⟨_, rfl, by rw [HL5.out, HL4.out, HL3.out, HL2.out, HL1.out, HTa.out, HTb.out, HTs.out]; exact HE.out.symm, HQ5.out.low⟩
  have b3 : (o == 3) = false := by simpa using o3
  by_cases o4 : o = 4
  · have HE : Hid (lineB (o, (x : Int), (y : Int), (z : Int)) = [97, 100, 100, 32, 114] ++ Lib.itoa (x : Int) ++ [32, 99] ++ Lib.itoa (y : Int)) := by show _ = _; subst o4; rfl
    have b4 : (o == 4) = true := by simpa using o4
    clear o4
    have hz0 : (⟨#[97, 100, 100, 32, 114]⟩ : ByteArray).size = 5 := rfl
    have hz2 : (⟨#[32, 99]⟩ : ByteArray).size = 2 := rfl
    obtain ⟨c1, hl1, hs1, hr1⟩ := cat_ex ⟨#[97, 100, 100, 32, 114]⟩ ta (by omega)
    have HL1 : Hid (c1.data.toList = (⟨#[97, 100, 100, 32, 114]⟩ : ByteArray).data.toList ++ (ta : ByteArray).data.toList) := hl1
    clear hl1
    obtain ⟨c2, hl2, hs2, hr2⟩ := cat_ex c1 ⟨#[32, 99]⟩ (by omega)
    have HL2 : Hid (c2.data.toList = (c1 : ByteArray).data.toList ++ (⟨#[32, 99]⟩ : ByteArray).data.toList) := hl2
    clear hl2
    obtain ⟨c3, hl3, hs3, hr3⟩ := cat_ex c2 tb (by omega)
    have HL3 : Hid (c3.data.toList = (c2 : ByteArray).data.toList ++ (tb : ByteArray).data.toList) := hl3
    clear hl3
    go_wp2
    go_ret
    exact ⟨_, rfl, by rw [HL3.out, HL2.out, HL1.out, HTa.out, HTb.out]; exact HE.out.symm, HQ5.out.low⟩
  have b4 : (o == 4) = false := by simpa using o4
  by_cases o5 : o = 5
  · have HE : Hid (lineB (o, (x : Int), (y : Int), (z : Int)) = [116, 97, 98, 108, 101, 32, 114] ++ Lib.itoa (x : Int)) := by show _ = _; subst o5; rfl
    have b5 : (o == 5) = true := by simpa using o5
    clear o5
    have hz0 : (⟨#[116, 97, 98, 108, 101, 32, 114]⟩ : ByteArray).size = 7 := rfl
    obtain ⟨c1, hl1, hs1, hr1⟩ := cat_ex ⟨#[116, 97, 98, 108, 101, 32, 114]⟩ ta (by omega)
    have HL1 : Hid (c1.data.toList = (⟨#[116, 97, 98, 108, 101, 32, 114]⟩ : ByteArray).data.toList ++ (ta : ByteArray).data.toList) := hl1
    clear hl1
    go_wp2
    go_ret
    exact ⟨_, rfl, by rw [HL1.out, HTa.out]; exact HE.out.symm, HQ5.out.low⟩
  have b5 : (o == 5) = false := by simpa using o5
  by_cases o6 : o = 6
  · have HE : Hid (lineB (o, (x : Int), (y : Int), (z : Int)) = [109, 101, 101, 116, 32, 114] ++ Lib.itoa (x : Int) ++ [32, 114] ++ Lib.itoa (y : Int) ++ [32, 98] ++ Lib.itoa (z : Int)) := by show _ = _; subst o6; rfl
    have b6 : (o == 6) = true := by simpa using o6
    clear o6
    have hz0 : (⟨#[109, 101, 101, 116, 32, 114]⟩ : ByteArray).size = 6 := rfl
    have hz2 : (⟨#[32, 114]⟩ : ByteArray).size = 2 := rfl
    have hz4 : (⟨#[32, 98]⟩ : ByteArray).size = 2 := rfl
    obtain ⟨c1, hl1, hs1, hr1⟩ := cat_ex ⟨#[109, 101, 101, 116, 32, 114]⟩ ta (by omega)
    have HL1 : Hid (c1.data.toList = (⟨#[109, 101, 101, 116, 32, 114]⟩ : ByteArray).data.toList ++ (ta : ByteArray).data.toList) := hl1
    clear hl1
    obtain ⟨c2, hl2, hs2, hr2⟩ := cat_ex c1 ⟨#[32, 114]⟩ (by omega)
    have HL2 : Hid (c2.data.toList = (c1 : ByteArray).data.toList ++ (⟨#[32, 114]⟩ : ByteArray).data.toList) := hl2
    clear hl2
    obtain ⟨c3, hl3, hs3, hr3⟩ := cat_ex c2 tb (by omega)
    have HL3 : Hid (c3.data.toList = (c2 : ByteArray).data.toList ++ (tb : ByteArray).data.toList) := hl3
    clear hl3
    obtain ⟨c4, hl4, hs4, hr4⟩ := cat_ex c3 ⟨#[32, 98]⟩ (by omega)
    have HL4 : Hid (c4.data.toList = (c3 : ByteArray).data.toList ++ (⟨#[32, 98]⟩ : ByteArray).data.toList) := hl4
    clear hl4
    obtain ⟨c5, hl5, hs5, hr5⟩ := cat_ex c4 tc (by omega)
    have HL5 : Hid (c5.data.toList = (c4 : ByteArray).data.toList ++ (tc : ByteArray).data.toList) := hl5
    clear hl5
    go_wp2
    go_ret
    exact ⟨_, rfl, by rw [HL5.out, HL4.out, HL3.out, HL2.out, HL1.out, HTa.out, HTb.out, HTc.out]; exact HE.out.symm, HQ5.out.low⟩
  have b6 : (o == 6) = false := by simpa using o6
  by_cases o7 : o = 7
  · have HE : Hid (lineB (o, (x : Int), (y : Int), (z : Int)) = [107, 101, 101, 112, 32, 112] ++ Lib.itoa (x : Int) ++ [32, 114] ++ Lib.itoa (y : Int)) := by show _ = _; subst o7; rfl
    have b7 : (o == 7) = true := by simpa using o7
    clear o7
    have hz0 : (⟨#[107, 101, 101, 112, 32, 112]⟩ : ByteArray).size = 6 := rfl
    have hz2 : (⟨#[32, 114]⟩ : ByteArray).size = 2 := rfl
    obtain ⟨c1, hl1, hs1, hr1⟩ := cat_ex ⟨#[107, 101, 101, 112, 32, 112]⟩ ta (by omega)
    have HL1 : Hid (c1.data.toList = (⟨#[107, 101, 101, 112, 32, 112]⟩ : ByteArray).data.toList ++ (ta : ByteArray).data.toList) := hl1
    clear hl1
    obtain ⟨c2, hl2, hs2, hr2⟩ := cat_ex c1 ⟨#[32, 114]⟩ (by omega)
    have HL2 : Hid (c2.data.toList = (c1 : ByteArray).data.toList ++ (⟨#[32, 114]⟩ : ByteArray).data.toList) := hl2
    clear hl2
    obtain ⟨c3, hl3, hs3, hr3⟩ := cat_ex c2 tb (by omega)
    have HL3 : Hid (c3.data.toList = (c2 : ByteArray).data.toList ++ (tb : ByteArray).data.toList) := hl3
    clear hl3
    go_wp2
    go_ret
    exact ⟨_, rfl, by rw [HL3.out, HL2.out, HL1.out, HTa.out, HTb.out]; exact HE.out.symm, HQ5.out.low⟩
  have b7 : (o == 7) = false := by simpa using o7
  have HE : Hid (lineB (o, (x : Int), (y : Int), (z : Int)) = [101, 110, 100, 32, 112] ++ Lib.itoa (x : Int) ++ [32, 99] ++ Lib.itoa (y : Int) ++ [32] ++ whereB (z : Int)) := by show _ = _; simp only [lineB, if_neg o1, if_neg o2, if_neg o3, if_neg o4, if_neg o5, if_neg o6, if_neg o7]
  clear o1 o2 o3 o4 o5 o6 o7
  have hz0 : (⟨#[101, 110, 100, 32, 112]⟩ : ByteArray).size = 5 := rfl
  have hz2 : (⟨#[32, 99]⟩ : ByteArray).size = 2 := rfl
  have hz4 : (⟨#[32]⟩ : ByteArray).size = 1 := rfl
  obtain ⟨c1, hl1, hs1, hr1⟩ := cat_ex ⟨#[101, 110, 100, 32, 112]⟩ ta (by omega)
  have HL1 : Hid (c1.data.toList = (⟨#[101, 110, 100, 32, 112]⟩ : ByteArray).data.toList ++ (ta : ByteArray).data.toList) := hl1
  clear hl1
  obtain ⟨c2, hl2, hs2, hr2⟩ := cat_ex c1 ⟨#[32, 99]⟩ (by omega)
  have HL2 : Hid (c2.data.toList = (c1 : ByteArray).data.toList ++ (⟨#[32, 99]⟩ : ByteArray).data.toList) := hl2
  clear hl2
  obtain ⟨c3, hl3, hs3, hr3⟩ := cat_ex c2 tb (by omega)
  have HL3 : Hid (c3.data.toList = (c2 : ByteArray).data.toList ++ (tb : ByteArray).data.toList) := hl3
  clear hl3
  obtain ⟨c4, hl4, hs4, hr4⟩ := cat_ex c3 ⟨#[32]⟩ (by omega)
  have HL4 : Hid (c4.data.toList = (c3 : ByteArray).data.toList ++ (⟨#[32]⟩ : ByteArray).data.toList) := hl4
  clear hl4
  obtain ⟨c5, hl5, hs5, hr5⟩ := cat_ex c4 tw (by omega)
  have HL5 : Hid (c5.data.toList = (c4 : ByteArray).data.toList ++ (tw : ByteArray).data.toList) := hl5
  clear hl5
  go_wp2
  go_ret
  exact ⟨_, rfl, by rw [HL5.out, HL4.out, HL3.out, HL2.out, HL1.out, HTa.out, HTb.out, HTw.out]; exact HE.out.symm, HQ5.out.low⟩

theorem Rt.nats {c : Cd} (h : Rt c) {q : Qd} (hq : q ∈ c.cell) : ∃ x y z : Nat, q = (q.1, (x : Int), (y : Int), (z : Int)) ∧ x ≤ 65535 ∧ y ≤ 65535 ∧ z ≤ 65535 := by
  have h1 := (h.cs q hq).2
  have b := h1 q.2.1 (by simp [q4])
  have d := h1 q.2.2.1 (by simp [q4])
  have e := h1 q.2.2.2 (by simp [q4])
  obtain ⟨o, x, y, z⟩ := q
  simp only at b d e
  refine ⟨x.toNat, y.toNat, z.toNat, ?_, by omega, by omega, by omega⟩
  rw [Int.toNat_of_nonneg b.1, Int.toNat_of_nonneg d.1, Int.toNat_of_nonneg e.1]

set_option maxHeartbeats 4000000 in
theorem refList_calls (c : Cd) (s : Ls) (w : World) (h : CdAt w c s) :
    Calls Tryd.prog 21 #[.agg (cdCells c s)] w fun e w' => TextPost (listA c) w e w' := by
  obtain ⟨⟨ta, tn, tc⟩, ⟨ka, kn, kc⟩, ⟨ia, n3, ic⟩, ⟨ra, rn, rc⟩⟩ := s
  have HC : Hid (CdAt w c ⟨⟨ta, tn, tc⟩, ⟨ka, kn, kc⟩, ⟨ia, n3, ic⟩, ⟨ra, rn, rc⟩⟩) := h
  clear h
  obtain ⟨r, hr⟩ : ∃ r, rightB c = r := ⟨_, rfl⟩
  have HR : Hid (rightB c = r) := hr
  clear hr
  rw [show cdCells c ⟨⟨ta, tn, tc⟩, ⟨ka, kn, kc⟩, ⟨ia, n3, ic⟩, ⟨ra, rn, rc⟩⟩ = #[.int .i64 c.letters, .int .i64 c.planes, .int .i64 c.regs, .int .i64 c.lo, .int .i64 c.hi, .int .i64 c.most, .slice ta tn tc, .slice ka kn kc, .slice ia n3 ic, .slice ra rn rc] from rfl]
  go_enter Tryd.func21, Tryd.ntmps21
  go_wp2_with fail
  refine (rightR_calls c ⟨⟨ta, tn, tc⟩, ⟨ka, kn, kc⟩, ⟨ia, n3, ic⟩, ⟨ra, rn, rc⟩⟩ _ (HC.out.below (below_new _))).mono ?_
  rintro e w1 ⟨rfl, hb⟩
  rw [HR.out]
  have HX : Hid (Bx w (cdCells c ⟨⟨ta, tn, tc⟩, ⟨ka, kn, kc⟩, ⟨ia, n3, ic⟩, ⟨ra, rn, rc⟩⟩) w1) := (Bx.start w _).next hb
  clear hb
  cases r
  · have HE : Hid (listA c = ([], 150)) := by show _ = _; rw [listA, if_neg (by rw [HR.out]; decide)]
    go_wp2
    go_ret2
    exact text_post HE.out rfl HX.out.low
  have HE : Hid (listA c = (listB c.cell, 0)) := by show _ = _; rw [listA, if_pos HR.out]
  have HRt : Hid (Rt c) := rt_of HR.out
  have HLn : Hid (c.cell.length = n3) := HC.out.cell.length
  have hn3 : n3 ≤ 1000 := by rw [← HLn.out]; exact HRt.out.cl
  go_wp2
  go_loopw [5, 6] (fun v i wq => ∃ (j : Nat) (t : ByteArray), j ≤ n3 ∧ i = .int .i64 j ∧ v = .string t ∧ t.data.toList = listB (c.cell.take j) ∧ Bx w (cdCells c ⟨⟨ta, tn, tc⟩, ⟨ka, kn, kc⟩, ⟨ia, n3, ic⟩, ⟨ra, rn, rc⟩⟩) wq) (fun _ i _ => n3 - (intOf i).toNat)
  case atStart => exact ⟨0, ⟨#[]⟩, Nat.zero_le _, rfl, rfl, rfl, HX.out⟩
  case round =>
    obtain ⟨j, t, hj, rfl, rfl, htl, hbx⟩ := hrel
    have HBx : Hid (Bx w (cdCells c ⟨⟨ta, tn, tc⟩, ⟨ka, kn, kc⟩, ⟨ia, n3, ic⟩, ⟨ra, rn, rc⟩⟩) wr) := hbx
    have HTl : Hid (t.data.toList = listB (c.cell.take j)) := htl
    have c8 := hbx.cell 8 (.slice ia n3 ic) rfl
    clear hbx htl HX
    by_cases hlt : j < n3
    · obtain ⟨q, hq⟩ := get_lt (l := c.cell) (k := j) (by rw [HLn.out]; exact hlt)
      obtain ⟨b, off, hao, hcs⟩ := (HC.out.below HBx.out.low).cell.cells (by show 0 < n3; omega)
      simp only at hao
      subst hao
      obtain ⟨c1, c2, c3, c4⟩ := hcs j q hq
      have hmem := List.mem_of_getElem? hq
      obtain ⟨x, y, z, hqe, hx, hy, hz⟩ := HRt.out.nats hmem
      have hll := lineB_len (HRt.out.okQ q hmem)
      have hts : t.size ≤ 81 * j := by
        rw [← size_toList, HTl.out]
        have := listB_len (l := c.cell.take j) (fun q hq => HRt.out.okQ q (List.mem_of_mem_take hq))
        simp at this; omega
      have HNx : Hid (listB (c.cell.take (j + 1)) = listB (c.cell.take j) ++ (lineB q ++ [10])) := listB_take hq
      obtain ⟨o, ho⟩ : ∃ o, q.1 = o := ⟨_, rfl⟩
      rw [ho] at hqe
      subst hqe
      simp only at c1 c2 c3 c4
      clear hcs hq hmem ho
      go_wp2_with fail
      refine (show StrC 40 _ (lineB (o, (x : Int), (y : Int), (z : Int))) wr from refLine_calls o x y z hx hy hz wr).mono ?_
      rintro e w2 ⟨u, rfl, hul, hb⟩
      have hus : u.size ≤ 80 := by rw [← size_toList, hul]; exact hll
      have HB2 : Hid (Bx w (cdCells c ⟨⟨ta, tn, tc⟩, ⟨ka, kn, kc⟩, ⟨some ⟨b, off, none⟩, n3, ic⟩, ⟨ra, rn, rc⟩⟩) w2) := HBx.out.next hb
      have hz10 : (⟨#[10]⟩ : ByteArray).size = 1 := rfl
      obtain ⟨p1, pl1, ps1, pr1⟩ := cat_ex t u (by omega)
      obtain ⟨p2, pl2, ps2, pr2⟩ := cat_ex p1 ⟨#[10]⟩ (by omega)
      have HP : Hid (p2.data.toList = listB (c.cell.take (j + 1))) := by
        show _ = _
        rw [pl2, pl1, hul, HTl.out, HNx.out, List.append_assoc]
      clear pl1 pl2 hul hb HBx c8
      go_wp2
      go_roundw
      case rel => exact ⟨j + 1, p2, by omega, by go_num, rfl, HP.out, HB2.out⟩
      case measure => simp [intOf]; omega
    · have HTk : Hid (c.cell.take j = c.cell) := List.take_of_length_le (by rw [HLn.out]; omega)
      go_wp2
      go_ret2
      exact text_post HE.out (by rw [HTl.out, HTk.out]) HBx.out.low

end Go.Proofs.YtignpgoicoojiaaDoor
