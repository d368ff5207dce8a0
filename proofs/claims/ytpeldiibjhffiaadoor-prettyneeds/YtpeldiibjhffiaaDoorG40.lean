/-
  Two variables are laid and stored into: the operations one by one. PrettyNeeds: the walk.
-/
import Derived.Test.YtpeldiibjhffiaaDoorG39
namespace Go.Proofs.YtpeldiibjhffiaaDoor
open Go.RowKit Go.Deep

set_option maxRecDepth 20000 in
theorem alloc24_step {o : Oper} {y : Nat → Option Bool} {a : Act} {w : World} {K : Act → World → Prop} {Q : Exit → Act → World → Prop} (h1 : o.op = .alloc 24) (h2 : o.dst = some 11) (h3 : o.guard = none)
    (h : ∀ V g, V = w.alloc (.cells #[.slice none 0 0] 24) → g = w.heap.size → K (a.put (some 11) (.pointer (some ⟨g, 0, none⟩))) V) :
    if Region.wanted o y = true then Oper.wp Tryd.prog o a w K Q else K (a.put o.dst undef) w := by
  obtain ⟨dst, op, type, pos, after, guard⟩ := o
  simp only at h1 h2 h3
  subst h1 h2 h3
  have := h _ _ rfl rfl
  clear h
  go_simp
  exact this
set_option maxRecDepth 20000 in
theorem alloc32_step {o : Oper} {y : Nat → Option Bool} {a : Act} {w : World} {K : Act → World → Prop} {Q : Exit → Act → World → Prop} (h1 : o.op = .alloc 32) (h2 : o.dst = some 12) (h3 : o.guard = none)
    (h : ∀ V g, V = w.alloc (.cells #[.int .i64 0, .int .i64 0] 32) → g = w.heap.size → K (a.put (some 12) (.pointer (some ⟨g, 0, none⟩))) V) :
    if Region.wanted o y = true then Oper.wp Tryd.prog o a w K Q else K (a.put o.dst undef) w := by
  obtain ⟨dst, op, type, pos, after, guard⟩ := o
  simp only at h1 h2 h3
  subst h1 h2 h3
  have := h _ _ rfl rfl
  clear h
  go_simp
  exact this
set_option maxRecDepth 20000 in
theorem store24_step {o : Oper} {y : Nat → Option Bool} {a : Act} {w : World} {K : Act → World → Prop} {Q : Exit → Act → World → Prop} {g : Nat} {tb : Option Addr} {um uc : Nat} (h1 : o.op = .store 24 (.tmp 11) (.tmp 100)) (h2 : o.dst = none) (h3 : o.guard = none)
    (e1 : a.tmps[11]?.getD undef = .pointer (some ⟨g, 0, none⟩)) (e2 : a.tmps[100]?.getD undef = .agg #[.slice tb um uc]) (hc : w.heap[g]? = some (.cells #[.slice none 0 0] 24 (0, 0)))
    (h : ∀ V, V = w.setCell ⟨g, 0, none⟩ (.slice tb um uc) → K a V) :
    if Region.wanted o y = true then Oper.wp Tryd.prog o a w K Q else K (a.put o.dst undef) w := by
  obtain ⟨dst, op, type, pos, after, guard⟩ := o
  simp only at h1 h2 h3
  subst h1 h2 h3
  have := h _ rfl
  have q0 := blk (i := 0) (u := .slice none 0 0) hc rfl
  have f0 := blkf 0 hc
  clear h hc
  go_simp
  exact this
set_option maxRecDepth 20000 in
theorem store32_step {o : Oper} {y : Nat → Option Bool} {a : Act} {w : World} {K : Act → World → Prop} {Q : Exit → Act → World → Prop} {g : Nat} {u v : Int} (h1 : o.op = .store 32 (.tmp 12) (.tmp 101)) (h2 : o.dst = none) (h3 : o.guard = none)
    (e1 : a.tmps[12]?.getD undef = .pointer (some ⟨g, 0, none⟩)) (e2 : a.tmps[101]?.getD undef = .agg #[.int .i64 u, .int .i64 v]) (hc : w.heap[g]? = some (.cells #[.int .i64 0, .int .i64 0] 32 (0, 0)))
    (h : ∀ V, V = (w.setCell ⟨g, 0, none⟩ (.int .i64 u)).setCell ⟨g, 1, none⟩ (.int .i64 v) → K a V) :
    if Region.wanted o y = true then Oper.wp Tryd.prog o a w K Q else K (a.put o.dst undef) w := by
  obtain ⟨dst, op, type, pos, after, guard⟩ := o
  simp only at h1 h2 h3
  subst h1 h2 h3
  have := h _ rfl
  have q0 := blk (i := 0) (u := .int .i64 0) hc rfl
  have f0 := blkf 0 hc
  have q1 := blk (i := 1) (u := .int .i64 0) hc rfl
  have f1 := blkf 1 hc
  clear h hc
  go_simp
  exact this
end Go.Proofs.YtpeldiibjhffiaaDoor
namespace Go.Proofs.YtpeldiibjhffiaaDoor
open Go.RowKit Go.Deep

theorem least_read {a : Ex} (ha : rgtF 32 (ofL [a]) = true) (hlen : (txE a).length ≤ 600) (S : List UInt8) (hS : S = [108, 101, 97, 115, 116, 32] ++ (txE a ++ [59])) : (parseW S).2.1 = 0 ∧ sameI (parseW S).1 [⟨10, [], ofL [a], 0⟩] = true := by
  have h1 := Sn_word (w := wLeast) rfl (bd_mark (c := 32) rfl) (Sn_blank (c := 32) rfl (ok_tx ha _ _ (bd_mark (c := 59) rfl) (Sn_mark (c := 59) rfl Sn_nil)))
  have e1 : S = wLeast ++ (32 :: (txE a ++ [59])) := by rw [hS]; rfl
  refine read_back (L := [⟨10, [], ofL [a], 0⟩]) ?_ ?_ ?_
  · rw [one_right]; exact ha
  · rw [hS]; simp; omega
  · rw [e1]
    have e2 : [(⟨10, [], ofL [a], 0⟩ : It)].flatMap itT = tk 4 0 wLeast :: (tkE a ++ [sg [59]]) := by
      simp [itT, headT, wordI, wLeast, ofL, nd, tkF, allT, tkE]
    rw [e2]
    exact h1
theorem same_trans {L M K : List It} (h : sameI M K = true) : sameI L M = sameI L K := by
  rw [Bool.eq_iff_iff, sameI_iff, sameI_iff]
  rw [sameI_iff] at h
  rw [h]
theorem odd_next {S : List UInt8} {i : Nat} {c : UInt8} (h : S[i]? = some c) : decide ((S.take (i + 1)).count 34 % 2 = 1) = (if c = 34 then !decide ((S.take i).count 34 % 2 = 1) else decide ((S.take i).count 34 % 2 = 1)) := by
  have e : S.take (i + 1) = S.take i ++ [c] := by rw [List.take_add_one, h]; rfl
  rw [e, List.count_append]
  by_cases hc : c = 34
  · subst hc
    rw [if_pos rfl, Bool.eq_iff_iff]
    simp
    omega
  · rw [if_neg hc, List.count_singleton, if_neg (by simpa using hc), Nat.add_zero]
theorem slice_to (s : ByteArray) (k : Nat) (h : k ≤ s.size) (w : World) : (Instr.slice 9 (.string s) none (some (.int .i64 (k : Int))) none).run Tryd.prog w = .ok (.string (s.extract 0 k)) w := by
  have h2 : ¬ s.size < k := by omega
  go_simp
theorem slice_from (s : ByteArray) (k : Nat) (h : k ≤ s.size) (w : World) : (Instr.slice 9 (.string s) (some (.int .i64 (k : Int))) none none).run Tryd.prog w = .ok (.string (s.extract k s.size)) w := by
  have h2 : ¬ s.size < k := by omega
  go_simp
theorem extract_all (s : ByteArray) (k : Nat) : (s.extract k s.size).data.toList = s.data.toList.drop k := by
  rw [extract_list, List.take_of_length_le (by rw [size_toList]; omega)]
set_option maxRecDepth 20000 in
set_option maxHeartbeats 4000000 in
theorem needs_bad (a : Ex) (pa : Option Addr) (pn pc : Nat) (w : World) (htab : TabOk w) (hA : ExAt false (fun _ => True) w a pa pn) (hz : (exprB a).2 ≠ 0) :
    Calls Tryd.prog 7 #[.agg #[.int .i64 a.1.kind, .int .i64 a.1.num, .string (bs a.1.text), .slice pa pn pc, .int .i64 a.1.pl]] w fun e w' => e = .returned (.bool true) ∧ Below w.heap.size w w' := by
  have HA : Hid (∀ W, Below w.heap.size w W → Calls Tryd.prog 10 #[] W fun e w' => e = .returned (.bool true) ∧ Below W.heap.size W w') := fun W hW => awake_calls W (htab.below hW)
  have HPa : Hid (∀ W, Below w.heap.size w W → Calls Tryd.prog 14 #[.agg #[.int .i64 a.1.kind, .int .i64 a.1.num, .string (bs a.1.text), .slice pa pn pc, .int .i64 a.1.pl]] W fun e w' => e = .returned (.tuple #[.string (bs (exprB a).1), .int .i64 (exprB a).2]) ∧ Below W.heap.size W w') := fun W hW => text_bs (exprP_calls a pa pn pc W (hA.below hW) (htab.below hW))
  have HV : Hid (Below w.heap.size w (w.alloc (.cells #[.int .i64 a.1.kind, .int .i64 a.1.num, .string (bs a.1.text), .slice pa pn pc, .int .i64 a.1.pl] 40)) ∧ (w.alloc (.cells #[.int .i64 a.1.kind, .int .i64 a.1.num, .string (bs a.1.text), .slice pa pn pc, .int .i64 a.1.pl] 40)).heap[w.heap.size]? = some (.cells #[.int .i64 a.1.kind, .int .i64 a.1.num, .string (bs a.1.text), .slice pa pn pc, .int .i64 a.1.pl] 40 (0, 0))) := ⟨low_alloc w _, heap_alloc_new w _⟩
  have hz2 : ((exprB a).2 != 0) = true := by simpa using hz
  clear hz
  generalize bs (exprB a).1 = s1 at *
  generalize (exprB a).2 = z1 at *
  generalize a.1.kind = a0 at *
  generalize a.1.num = a1 at *
  generalize bs a.1.text = a2 at *
  generalize a.1.pl = a4 at *
  clear hA htab
  go_enter Tryd.func7, Tryd.ntmps7
  go_wp2_with fail
  refine (HA.out _ HV.out.1).mono ?_
  rintro e w1 ⟨rfl, hb1⟩
  have H1 : Hid (Below w.heap.size w w1 ∧ w1.heap[w.heap.size]? = some (.cells #[.int .i64 a0, .int .i64 a1, .string a2, .slice pa pn pc, .int .i64 a4] 40 (0, 0))) := ⟨HV.out.1.trans (hb1.mono HV.out.1.size), by rw [hb1.block _ (lt_block HV.out.2)]; exact HV.out.2⟩
  clear hb1 HV HA
  have x0 := blk (i := 0) H1.out.2 rfl
  have x1 := blk (i := 1) H1.out.2 rfl
  have x2 := blk (i := 2) H1.out.2 rfl
  have x3 := blk (i := 3) H1.out.2 rfl
  have x4 := blk (i := 4) H1.out.2 rfl
  go_wp2_with fail
  refine (HPa.out _ H1.out.1).mono ?_
  rintro e w2 ⟨rfl, hb2⟩
  have H2 : Hid (Below w.heap.size w w2) := H1.out.1.trans (hb2.mono H1.out.1.size)
  clear hb2 H1 HPa x0 x1 x2 x3 x4
  go_wp2
  go_ret
  exact ⟨rfl, H2.out⟩
set_option maxRecDepth 20000 in
set_option maxHeartbeats 4000000 in
theorem needs_long (a : Ex) (pa : Option Addr) (pn pc : Nat) (w : World) (htab : TabOk w) (hA : ExAt false (fun _ => True) w a pa pn) (hz : (exprB a).2 = 0) (hl : 600 < (bs (exprB a).1).size) :
    Calls Tryd.prog 7 #[.agg #[.int .i64 a.1.kind, .int .i64 a.1.num, .string (bs a.1.text), .slice pa pn pc, .int .i64 a.1.pl]] w fun e w' => e = .returned (.bool true) ∧ Below w.heap.size w w' := by
  have HA : Hid (∀ W, Below w.heap.size w W → Calls Tryd.prog 10 #[] W fun e w' => e = .returned (.bool true) ∧ Below W.heap.size W w') := fun W hW => awake_calls W (htab.below hW)
  have HPa : Hid (∀ W, Below w.heap.size w W → Calls Tryd.prog 14 #[.agg #[.int .i64 a.1.kind, .int .i64 a.1.num, .string (bs a.1.text), .slice pa pn pc, .int .i64 a.1.pl]] W fun e w' => e = .returned (.tuple #[.string (bs (exprB a).1), .int .i64 (exprB a).2]) ∧ Below W.heap.size W w') := fun W hW => text_bs (exprP_calls a pa pn pc W (hA.below hW) (htab.below hW))
  have HV : Hid (Below w.heap.size w (w.alloc (.cells #[.int .i64 a.1.kind, .int .i64 a.1.num, .string (bs a.1.text), .slice pa pn pc, .int .i64 a.1.pl] 40)) ∧ (w.alloc (.cells #[.int .i64 a.1.kind, .int .i64 a.1.num, .string (bs a.1.text), .slice pa pn pc, .int .i64 a.1.pl] 40)).heap[w.heap.size]? = some (.cells #[.int .i64 a.1.kind, .int .i64 a.1.num, .string (bs a.1.text), .slice pa pn pc, .int .i64 a.1.pl] 40 (0, 0))) := ⟨low_alloc w _, heap_alloc_new w _⟩
  have hl2 : decide ((600 : Int) < ((bs (exprB a).1).size : Int)) = true := by simp; omega
  rw [hz] at HPa
  clear hz hl
  generalize bs (exprB a).1 = s1 at *
  generalize a.1.kind = a0 at *
  generalize a.1.num = a1 at *
  generalize bs a.1.text = a2 at *
  generalize a.1.pl = a4 at *
  clear hA htab
  go_enter Tryd.func7, Tryd.ntmps7
  go_wp2_with fail
  refine (HA.out _ HV.out.1).mono ?_
  rintro e w1 ⟨rfl, hb1⟩
  have H1 : Hid (Below w.heap.size w w1 ∧ w1.heap[w.heap.size]? = some (.cells #[.int .i64 a0, .int .i64 a1, .string a2, .slice pa pn pc, .int .i64 a4] 40 (0, 0))) := ⟨HV.out.1.trans (hb1.mono HV.out.1.size), by rw [hb1.block _ (lt_block HV.out.2)]; exact HV.out.2⟩
  clear hb1 HV HA
  have x0 := blk (i := 0) H1.out.2 rfl
  have x1 := blk (i := 1) H1.out.2 rfl
  have x2 := blk (i := 2) H1.out.2 rfl
  have x3 := blk (i := 3) H1.out.2 rfl
  have x4 := blk (i := 4) H1.out.2 rfl
  go_wp2_with fail
  refine (HPa.out _ H1.out.1).mono ?_
  rintro e w2 ⟨rfl, hb2⟩
  have H2 : Hid (Below w.heap.size w w2) := H1.out.1.trans (hb2.mono H1.out.1.size)
  clear hb2 H1 HPa x0 x1 x2 x3 x4
  go_wp2
  go_ret
  exact ⟨rfl, H2.out⟩
set_option maxRecDepth 20000 in
set_option maxHeartbeats 4000000 in
theorem needs_read (a : Ex) (pa : Option Addr) (pn pc : Nat) (w : World) (htab : TabOk w) (hA : ExAt false (fun _ => True) w a pa pn) (hz : exprB a = (txE a, 0)) (hr : rgtF 32 (ofL [a]) = true) (hl : (txE a).length ≤ 600) :
    Calls Tryd.prog 7 #[.agg #[.int .i64 a.1.kind, .int .i64 a.1.num, .string (bs a.1.text), .slice pa pn pc, .int .i64 a.1.pl]] w fun e w' => e = .returned (.bool true) ∧ Below w.heap.size w w' := by
  have HA : Hid (∀ W, Below w.heap.size w W → Calls Tryd.prog 10 #[] W fun e w' => e = .returned (.bool true) ∧ Below W.heap.size W w') := fun W hW => awake_calls W (htab.below hW)
  have HPa : Hid (∀ W, Below w.heap.size w W → Calls Tryd.prog 14 #[.agg #[.int .i64 a.1.kind, .int .i64 a.1.num, .string (bs a.1.text), .slice pa pn pc, .int .i64 a.1.pl]] W fun e w' => e = .returned (.tuple #[.string (bs (exprB a).1), .int .i64 (exprB a).2]) ∧ Below W.heap.size W w') := fun W hW => text_bs (exprP_calls a pa pn pc W (hA.below hW) (htab.below hW))
  have HV : Hid (Below w.heap.size w (w.alloc (.cells #[.int .i64 a.1.kind, .int .i64 a.1.num, .string (bs a.1.text), .slice pa pn pc, .int .i64 a.1.pl] 40)) ∧ (w.alloc (.cells #[.int .i64 a.1.kind, .int .i64 a.1.num, .string (bs a.1.text), .slice pa pn pc, .int .i64 a.1.pl] 40)).heap[w.heap.size]? = some (.cells #[.int .i64 a.1.kind, .int .i64 a.1.num, .string (bs a.1.text), .slice pa pn pc, .int .i64 a.1.pl] 40 (0, 0))) := ⟨low_alloc w _, heap_alloc_new w _⟩
  rw [hz] at HPa
  have hss : (bs (txE a)).size ≤ 600 := by rw [bs_size]; exact hl
  obtain ⟨d1, f1, n1, e1⟩ := cat_var ⟨#[108, 101, 97, 115, 116, 32]⟩ (bs (txE a)) (by rw [show (⟨#[108, 101, 97, 115, 116, 32]⟩ : ByteArray).size = 6 from rfl]; omega)
  rw [show (⟨#[108, 101, 97, 115, 116, 32]⟩ : ByteArray).size = 6 from rfl] at n1
  obtain ⟨d2, f2, n2, e2⟩ := cat_var d1 ⟨#[59]⟩ (by rw [show (⟨#[59]⟩ : ByteArray).size = 1 from rfl]; omega)
  have hd2 : d2.data.toList = [108, 101, 97, 115, 116, 32] ++ (txE a ++ [59]) := by rw [f2, f1, bs_data, List.append_assoc]
  obtain ⟨r1, r2⟩ := least_read hr hl _ hd2
  have HPp : Hid (∀ W, Calls Tryd.prog 12 #[.string d2] W fun e w' => ∃ ta tn tc pl, e = .returned (.tuple #[.agg #[.slice ta tn tc], .agg #[.int .i64 0, .int .i64 pl]]) ∧ tn ≤ 4002 ∧ (∃ X : Nat → Prop, ItsAt true X w' (parseW d2.data.toList).1 ta tn) ∧ Below W.heap.size W w') := fun W => by
    refine (parse_calls d2 W).mono ?_
    rintro e w' ⟨ta, tn, tc, rfl, htn, hI, hb⟩
    rw [r1]
    exact ⟨ta, tn, tc, _, rfl, htn, ⟨_, hI⟩, hb⟩
  have HL0 : Hid (sameI (parseW d2.data.toList).1 [⟨10, [], ofL [a], 0⟩] = true) := r2
  have HCl : Hid (∀ (i : Nat) W, i ≤ (bs (txE a)).size → Calls Tryd.prog 16 #[.string (bs (txE a)), .int .i64 (i : Int)] W fun e w' => e = .returned (.int .i64 (cloR i (clo false 0 ((bs (txE a)).data.toList.drop i)))) ∧ w' = W) := fun i W hi => closing_calls _ i W hss hi
  have HNd : Hid (∀ i : Nat, ev ((bs (txE a)).data.toList.take i) → (bs (txE a)).data.toList[i]? = some 40 → ∃ k, clo false 0 ((bs (txE a)).data.toList.drop i) = some k ∧ 0 < k ∧ i + k < (bs (txE a)).size ∧
      ∀ S, S = [108, 101, 97, 115, 116, 32] ++ ((bs (txE a)).data.toList.take i ++ ([32] ++ (((bs (txE a)).data.toList.take (i + k)).drop (i + 1) ++ ([32] ++ ((bs (txE a)).data.toList.drop (i + k + 1) ++ [59]))))) →
        ¬ ((parseW S).2.1 = 0 ∧ sameI (parseW S).1 (parseW d2.data.toList).1 = true)) := fun i h1 h2 => by
    rw [bs_data] at h1 h2
    obtain ⟨k, h3, h4, h5, h6⟩ := need hr hl h1 h2
    refine ⟨k, ?_, h4, ?_, fun S hS => ?_⟩
    · rw [bs_data]; exact h3
    · rw [bs_size]; exact h5
    · rw [bs_data] at hS
      rw [same_trans r2]
      exact h6 S hS
  clear hd2 f1 f2 r1 r2 HL0 hz hr hl n1 n2
  generalize (parseW d2.data.toList).1 = L0 at *
  have hl2 : decide ((600 : Int) < ((bs (txE a)).size : Int)) = false := by simp only [decide_eq_false_iff_not]; omega
  generalize bs (txE a) = s at *
  generalize a.1.kind = a0 at *
  generalize a.1.num = a1 at *
  generalize bs a.1.text = a2 at *
  generalize a.1.pl = a4 at *
  clear hA htab
  go_enter Tryd.func7, Tryd.ntmps7
  go_wp2_with fail
  refine (HA.out _ HV.out.1).mono ?_
  rintro e w1 ⟨rfl, hb1⟩
  have H1 : Hid (Below w.heap.size w w1 ∧ w1.heap[w.heap.size]? = some (.cells #[.int .i64 a0, .int .i64 a1, .string a2, .slice pa pn pc, .int .i64 a4] 40 (0, 0))) := ⟨HV.out.1.trans (hb1.mono HV.out.1.size), by rw [hb1.block _ (lt_block HV.out.2)]; exact HV.out.2⟩
  clear hb1 HV HA
  have x0 := blk (i := 0) H1.out.2 rfl
  have x1 := blk (i := 1) H1.out.2 rfl
  have x2 := blk (i := 2) H1.out.2 rfl
  have x3 := blk (i := 3) H1.out.2 rfl
  have x4 := blk (i := 4) H1.out.2 rfl
  go_wp2_with fail
  refine (HPa.out _ H1.out.1).mono ?_
  rintro e w2 ⟨rfl, hb2⟩
  have H2 : Hid (Below w.heap.size w w2) := H1.out.1.trans (hb2.mono H1.out.1.size)
  clear hb2 H1 HPa x0 x1 x2 x3 x4
  go_wp2_with fail
  refine (HPp.out _).mono ?_
  rintro e w3 ⟨ta, tn, tc, pl, rfl, htn, hI, hb3⟩
  have hbt := below_two w3 (.cells #[.slice ta tn tc] 24) (.cells #[.int .i64 0, .int .i64 pl] 32)
  have hbw : Below w.heap.size w w3 := H2.out.trans (hb3.mono H2.out.size)
  have H4 : Hid (Below w.heap.size w ((w3.alloc (.cells #[.slice ta tn tc] 24)).alloc (.cells #[.int .i64 0, .int .i64 pl] 32)) ∧ ((w3.alloc (.cells #[.slice ta tn tc] 24)).alloc (.cells #[.int .i64 0, .int .i64 pl] 32)).heap[w3.heap.size]? = some (.cells #[.slice ta tn tc] 24 (0, 0)) ∧ ∃ X : Nat → Prop, ItsAt true X ((w3.alloc (.cells #[.slice ta tn tc] 24)).alloc (.cells #[.int .i64 0, .int .i64 pl] 32)) L0 ta tn) := ⟨hbw.trans (hbt.mono hbw.size), heap_old (heap_alloc_new w3 _), hI.imp fun X h => h.below hbt⟩
  have f := blk (i := 0) (twoN_new w3 (.cells #[.slice ta tn tc] 24) (.cells #[.int .i64 0, .int .i64 pl] 32)) rfl
  clear hbt hbw hb3 hI H2 HPp e1 e2 hl2
  go_wp2_with fail
  go_loopg [8, 9] s.size (fun k qv iv wr => ∃ (i : Nat) (q : Bool), qv = .bool q ∧ iv = .int .i64 (i : Int) ∧ i + k = s.size ∧ Hid (q = decide ((s.data.toList.take i).count 34 % 2 = 1)) ∧ Hid (Bs w w3.heap.size ta tn tc L0 wr))
  case atStart => exact ⟨0, false, rfl, rfl, by omega, rfl, H4.out⟩
  case round =>
    clear H4 f
    obtain ⟨i, q, rfl, rfl, hik, HQ, HB⟩ := hrel
    by_cases hlt : i < s.size
    · have hdk : decide ((i : Int) < (s.size : Int)) = true := by simp; omega
      have HG : Hid (s.data.toList[i]? = some s[i]) := getElem?_at s i hlt
      have hN0 := odd_next HG.out
      rw [← HQ.out] at hN0
      have e34 := eq34 s[i]
      have e40 := eq40 s[i]
      by_cases h34 : s[i] = 34
      · rw [if_pos h34] at hN0
        have HN : Hid ((!q) = decide ((s.data.toList.take (i + 1)).count 34 % 2 = 1)) := hN0.symm
        rw [decide_eq_true h34] at e34
        have e40' : (((s[i].toNat : Nat) : Int) != 40) = true := by rw [bne, e40, decide_eq_false (by rw [h34]; decide)]; rfl
        clear hN0 HQ HG h34 e40 HNd HCl
        cases q
        · go_wp2
          go_roundg (gk - 1)
          case measure => omega
          case rel => exact ⟨i + 1, true, rfl, by go_num, by omega, HN.out, HB.out⟩
        · go_wp2
          go_roundg (gk - 1)
          case measure => omega
          case rel => exact ⟨i + 1, false, rfl, by go_num, by omega, HN.out, HB.out⟩
      · rw [if_neg h34] at hN0
        have HN : Hid (q = decide ((s.data.toList.take (i + 1)).count 34 % 2 = 1)) := hN0.symm
        rw [decide_eq_false h34] at e34
        clear hN0 h34
        cases q with
        | true =>
          clear HQ HG e40 HNd HCl
          go_wp2
          go_roundg (gk - 1)
          case measure => omega
          case rel => exact ⟨i + 1, true, rfl, by go_num, by omega, HN.out, HB.out⟩
        | false =>
          by_cases h40 : s[i] = 40
          · have hev : ev (s.data.toList.take i) := by
              have := HQ.out
              unfold ev
              have h2 : ¬ ((s.data.toList.take i).count 34 % 2 = 1) := of_decide_eq_false this.symm
              omega
            have hg40 : s.data.toList[i]? = some 40 := by rw [HG.out, h40]
            obtain ⟨k, k1, k2, k3, k4⟩ := HNd.out i hev hg40
            have e40' : (((s[i].toNat : Nat) : Int) != 40) = false := by rw [bne, e40, decide_eq_true h40]; rfl
            obtain ⟨z, hz⟩ : ∃ z, z = i + k := ⟨_, rfl⟩
            have HC2 : Hid (∀ W, Calls Tryd.prog 16 #[.string s, .int .i64 (i : Int)] W fun e w' => e = .returned (.int .i64 (z : Int)) ∧ w' = W) := fun W => by
              have := HCl.out i W (by omega)
              rw [k1, show cloR i (some k) = ((z : Nat) : Int) by rw [hz]; rfl] at this
              exact this
            rw [← hz] at k3 k4
            have hiz : i + 1 ≤ z := by omega
            have sl1 := slice_to s i (by omega)
            have sl2 := slice_run s (i + 1) z hiz (by omega)
            have sl3 := slice_from s (z + 1) (by omega)
            rw [show ((i + 1 : Nat) : Int) = (i : Int) + 1 by omega] at sl2
            rw [show ((z + 1 : Nat) : Int) = (z : Int) + 1 by omega] at sl3
            have x1 : (s.extract 0 i).data.toList = s.data.toList.take i := by rw [extract_list]; rfl
            have x2 : (s.extract (i + 1) z).data.toList = (s.data.toList.take z).drop (i + 1) := by rw [extract_list]
            have x3 := extract_all s (z + 1)
            have z1 : (s.extract 0 i).size ≤ 600 := by rw [ByteArray.size_extract]; omega
            have z2 : (s.extract (i + 1) z).size ≤ 600 := by rw [ByteArray.size_extract]; omega
            have z3 : (s.extract (z + 1) s.size).size ≤ 600 := by rw [ByteArray.size_extract]; omega
            generalize s.extract 0 i = p1 at *
            generalize s.extract (i + 1) z = p2 at *
            generalize s.extract (z + 1) s.size = p3 at *
            obtain ⟨c1, f1, n1, e1⟩ := cat_var ⟨#[108, 101, 97, 115, 116, 32]⟩ p1 (by rw [show (⟨#[108, 101, 97, 115, 116, 32]⟩ : ByteArray).size = 6 from rfl]; omega)
            rw [show (⟨#[108, 101, 97, 115, 116, 32]⟩ : ByteArray).size = 6 from rfl] at n1
            obtain ⟨c2, f2, n2, e2⟩ := cat_var c1 ⟨#[32]⟩ (by rw [show (⟨#[32]⟩ : ByteArray).size = 1 from rfl]; omega)
            rw [show (⟨#[32]⟩ : ByteArray).size = 1 from rfl] at n2
            obtain ⟨c3, f3, n3, e3⟩ := cat_var c2 p2 (by omega)
            obtain ⟨c4, f4, n4, e4⟩ := cat_var c3 ⟨#[32]⟩ (by rw [show (⟨#[32]⟩ : ByteArray).size = 1 from rfl]; omega)
            rw [show (⟨#[32]⟩ : ByteArray).size = 1 from rfl] at n4
            obtain ⟨c5, f5, n5, e5⟩ := cat_var c4 p3 (by omega)
            obtain ⟨c6, f6, n6, e6⟩ := cat_var c5 ⟨#[59]⟩ (by rw [show (⟨#[59]⟩ : ByteArray).size = 1 from rfl]; omega)
            have hc6 := k4 c6.data.toList (by
              rw [f6, f5, f4, f3, f2, f1, x1, x2, x3]
              simp)
            have HP1 : Hid (∀ W, Calls Tryd.prog 12 #[.string c6] W fun e w' => TreePost (parseW c6.data.toList) W e w') := fun W => parse_calls c6 W
            have HZ : Hid (¬ ((parseW c6.data.toList).2.1 = 0 ∧ sameI (parseW c6.data.toList).1 L0 = true)) := hc6
            have hk0 : decide ((z : Int) < 0) = false := by simp only [decide_eq_false_iff_not]; omega
            generalize parseW c6.data.toList = P at *
            obtain ⟨L1, code, pl1⟩ := P
            simp only at HZ
            clear f1 f2 f3 f4 f5 f6 n1 n2 n3 n4 n5 n6 hc6 k4 k1 hev hg40 HCl HNd HQ HG h40 e40 z1 z2 z3 x1 x2 x3 hz k2
            by_cases hi0 : i = 0
            · have hd0 : ¬ 0 < i := by omega
              clear hi0
              go_wp2_with fail
              refine (HC2.out _).mono ?_
              rintro e w5 ⟨rfl, rfl⟩
              clear HC2
              go_upto_region 18 with (fail)
              have wi : IntKind.i64.wrap ((i : Int) + 1) = (i : Int) + 1 := by rw [IntKind.wrap_i64]; omega
              have wz : IntKind.i64.wrap ((z : Int) + 1) = (z : Int) + 1 := by rw [IntKind.wrap_i64]; omega
              go_cut [11, 12] (fun tv hv wc => ∃ gT gF tb um uc, tv = .pointer (some ⟨gT, 0, none⟩) ∧ hv = .pointer (some ⟨gF, 0, none⟩) ∧ um ≤ 4002 ∧ Hid (Bs w w3.heap.size ta tn tc L0 wc ∧ wc.heap[gT]? = some (.cells #[.slice tb um uc] 24 (0, 0)) ∧ wc.heap[gF]? = some (.cells #[.int .i64 code, .int .i64 pl1] 32 (0, 0)) ∧ Tr wc L1 tb um))
              case first =>
                refine wp_region_X 26 (fun _ => True) (by kernel_rfl) ?_
                refine wpAnyX_take0 (i := 0) (v := .string s) rfl (by kernel_rfl) (by decide) (by kernel_rfl) (by kernel_rfl) (fun _ _ _ h => h) trivial (Or.inl ⟨by rfl, by (intro W hW; go_simp)⟩) ?_
                simp only [Act.put]
                refine wpAnyX_take0 (i := 1) (v := .int .i64 (i : Int)) rfl (by kernel_rfl) (by decide) (by kernel_rfl) (by kernel_rfl) (fun _ _ _ h => h) trivial (Or.inl ⟨by rfl, by (intro W hW; go_simp)⟩) ?_
                simp only [Act.put]
                refine wpAnyX_take0 (i := 2) (v := .string p1) rfl (by kernel_rfl) (by decide) (by kernel_rfl) (by kernel_rfl) (fun _ _ _ h => h) trivial (Or.inl ⟨by rfl, by (intro W hW; go_simp)⟩) ?_
                simp only [Act.put]
                refine wpAnyX_take0 (i := 3) (v := .string c1) rfl (by kernel_rfl) (by decide) (by kernel_rfl) (by kernel_rfl) (fun _ _ _ h => h) trivial (Or.inl ⟨by rfl, by (intro W hW; go_simp)⟩) ?_
                simp only [Act.put]
                refine wpAnyX_take0 (i := 4) (v := .string c2) rfl (by kernel_rfl) (by decide) (by kernel_rfl) (by kernel_rfl) (fun _ _ _ h => h) trivial (Or.inl ⟨by rfl, by (intro W hW; go_simp)⟩) ?_
                simp only [Act.put]
                refine wpAnyX_take0 (i := 5) (v := .string s) rfl (by kernel_rfl) (by decide) (by kernel_rfl) (by kernel_rfl) (fun _ _ _ h => h) trivial (Or.inl ⟨by rfl, by (intro W hW; go_simp)⟩) ?_
                simp only [Act.put]
                refine wpAnyX_take0 (i := 6) (v := .int .i64 (i : Int)) rfl (by kernel_rfl) (by decide) (by kernel_rfl) (by kernel_rfl) (fun _ _ _ h => h) trivial (Or.inl ⟨by rfl, by (intro W hW; go_simp)⟩) ?_
                simp only [Act.put]
                refine wpAnyX_take0 (i := 7) (v := .int .i64 ((i : Int) + 1)) rfl (by kernel_rfl) (by decide) (by kernel_rfl) (by kernel_rfl) (fun _ _ _ h => h) trivial (Or.inl ⟨by rfl, by (intro W hW; go_simp)⟩) ?_
                simp only [Act.put]
                refine wpAnyX_take0 (i := 8) (v := .int .i64 (z : Int)) rfl (by kernel_rfl) (by decide) (by kernel_rfl) (by kernel_rfl) (fun _ _ _ h => h) trivial (Or.inl ⟨by rfl, by (intro W hW; go_simp)⟩) ?_
                simp only [Act.put]
                refine wpAnyX_take0 (i := 9) (v := .string p2) rfl (by kernel_rfl) (by decide) (by kernel_rfl) (by kernel_rfl) (fun _ _ _ h => h) trivial (Or.inl ⟨by rfl, by (intro W hW; go_simp)⟩) ?_
                simp only [Act.put]
                refine wpAnyX_take0 (i := 10) (v := .string c3) rfl (by kernel_rfl) (by decide) (by kernel_rfl) (by kernel_rfl) (fun _ _ _ h => h) trivial (Or.inl ⟨by rfl, by (intro W hW; go_simp)⟩) ?_
                simp only [Act.put]
                refine wpAnyX_take0 (i := 11) (v := .string c4) rfl (by kernel_rfl) (by decide) (by kernel_rfl) (by kernel_rfl) (fun _ _ _ h => h) trivial (Or.inl ⟨by rfl, by (intro W hW; go_simp)⟩) ?_
                simp only [Act.put]
                refine wpAnyX_take0 (i := 12) (v := .string s) rfl (by kernel_rfl) (by decide) (by kernel_rfl) (by kernel_rfl) (fun _ _ _ h => h) trivial (Or.inl ⟨by rfl, by (intro W hW; go_simp)⟩) ?_
                simp only [Act.put]
                refine wpAnyX_take0 (i := 13) (v := .int .i64 (z : Int)) rfl (by kernel_rfl) (by decide) (by kernel_rfl) (by kernel_rfl) (fun _ _ _ h => h) trivial (Or.inl ⟨by rfl, by (intro W hW; go_simp)⟩) ?_
                simp only [Act.put]
                refine wpAnyX_take0 (i := 14) (v := .int .i64 ((z : Int) + 1)) rfl (by kernel_rfl) (by decide) (by kernel_rfl) (by kernel_rfl) (fun _ _ _ h => h) trivial (Or.inl ⟨by rfl, by (intro W hW; go_simp)⟩) ?_
                simp only [Act.put]
                refine wpAnyX_take0 (i := 15) (v := .string p3) rfl (by kernel_rfl) (by decide) (by kernel_rfl) (by kernel_rfl) (fun _ _ _ h => h) trivial (Or.inl ⟨by rfl, by (intro W hW; go_simp)⟩) ?_
                simp only [Act.put]
                refine wpAnyX_take0 (i := 16) (v := .string c5) rfl (by kernel_rfl) (by decide) (by kernel_rfl) (by kernel_rfl) (fun _ _ _ h => h) trivial (Or.inl ⟨by rfl, by (intro W hW; go_simp)⟩) ?_
                simp only [Act.put]
                refine wpAnyX_take0 (i := 17) (v := .string c6) rfl (by kernel_rfl) (by decide) (by kernel_rfl) (by kernel_rfl) (fun _ _ _ h => h) trivial (Or.inl ⟨by rfl, by (intro W hW; go_simp)⟩) ?_
                simp only [Act.put]
                replace HB : Bs w w3.heap.size ta tn tc L0 w5.drew := HB.out.below (Below.drew (Below.refl w5.heap.size w5))
                refine wpAnyX_three (i := 18) (j := 22) (l := 23) (by kernel_rfl) rfl rfl rfl ?_ ?_ ?_
                · intro K hK
                  go_simp
                  refine (HP1.out _).mono ?_
                  rintro e' V1 ⟨tb, um, uc, rfl, hum, hI6, hb6⟩
                  refine hK.out _ _ (fun _ => trivial) ?_
                  clear hK K
                  have hI : Tr V1 L1 tb um := ⟨_, hI6⟩
                  replace HB := HB.below hb6
                  clear hb6 hI6
                  refine wpAnyX_take0 (i := 19) (v := .tuple #[.agg #[.slice tb um uc], .agg #[.int .i64 code, .int .i64 pl1]]) rfl (by kernel_rfl) (by decide) (by kernel_rfl) (by kernel_rfl) (fun _ _ _ h => h) trivial (Or.inl ⟨by rfl, by (intro W hW; go_simp)⟩) ?_
                  simp only [Act.put]
                  refine wpAnyX_take0 (i := 20) (v := .agg #[.slice tb um uc]) rfl (by kernel_rfl) (by decide) (by kernel_rfl) (by kernel_rfl) (fun _ _ _ h => h) trivial (Or.inl ⟨by rfl, by (intro W hW; go_simp)⟩) ?_
                  simp only [Act.put]
                  refine wpAnyX_take0 (i := 21) (v := .agg #[.int .i64 code, .int .i64 pl1]) rfl (by kernel_rfl) (by decide) (by kernel_rfl) (by kernel_rfl) (fun _ _ _ h => h) trivial (Or.inl ⟨by rfl, by (intro W hW; go_simp)⟩) ?_
                  simp only [Act.put]
                  refine wpAnyX_two (i := 22) (j := 23) (by kernel_rfl) rfl rfl ?_ ?_
                  · intro K hK
                    refine alloc24_step rfl rfl rfl ?_
                    intro V2 gT hV hG
                    refine hK.out _ _ (fun _ => trivial) ?_
                    clear hK K
                    have lo := low_alloc V1 (.cells #[.slice none 0 0] 24)
                    rw [← hV] at lo
                    replace hI := hI.below lo
                    have hT : Vr w w3.heap.size V2 gT #[.slice none 0 0] 24 := by rw [hV, hG]; exact Vr.new HB #[.slice none 0 0] 24
                    replace HB := HB.below lo
                    clear lo hV hG
                    simp only [Act.put]
                    refine wpAnyX_one (i := 23) rfl (by kernel_rfl) ?_
                    intro K hK
                    refine alloc32_step rfl rfl rfl ?_
                    intro V3 gF hV hG
                    refine hK.out _ _ (fun _ => trivial) ?_
                    clear hK K
                    have lo := low_alloc V2 (.cells #[.int .i64 0, .int .i64 0] 32)
                    rw [← hV] at lo
                    replace hT := hT.below lo
                    replace hI := hI.below lo
                    have hF : Vr w w3.heap.size V3 gF #[.int .i64 0, .int .i64 0] 32 := by rw [hV, hG]; exact Vr.new HB #[.int .i64 0, .int .i64 0] 32
                    replace HB := HB.below lo
                    clear lo hV hG
                    simp only [Act.put]
                    refine wpAnyX_one (i := 24) rfl (by kernel_rfl) ?_
                    intro K hK
                    have q0 := blk (i := 0) hT.at_ rfl
                    have f0 := blkf 0 hT.at_
                    go_simp
                    refine hK.out _ _ (fun _ => trivial) ?_
                    clear hK K q0 f0
                    replace HB : Bs w w3.heap.size ta tn tc L0 (V3.setCell ⟨gT, 0, none⟩ (.slice tb um uc)) := HB.set hT.at_ (by decide) (by decide) hT.hi.1 hT.hi.2
                    replace hI : Tr (V3.setCell ⟨gT, 0, none⟩ (.slice tb um uc)) L1 tb um := hI.set hT.at_ (by decide) (by decide)
                    replace hF : Vr w w3.heap.size (V3.setCell ⟨gT, 0, none⟩ (.slice tb um uc)) gF #[.int .i64 0, .int .i64 0] 32 := hF.other hT (by decide)
                    replace hT : Vr w w3.heap.size (V3.setCell ⟨gT, 0, none⟩ (.slice tb um uc)) gT #[.slice tb um uc] 24 := hT.put rfl
                    refine wpAnyX_one (i := 25) rfl (by kernel_rfl) ?_
                    intro K hK
                    have q0 := blk (i := 0) hF.at_ rfl
                    have f0 := blkf 0 hF.at_
                    have q1 := blk (i := 1) hF.at_ rfl
                    have f1 := blkf 1 hF.at_
                    go_simp
                    refine hK.out _ _ (fun _ => trivial) ?_
                    clear hK K q0 f0 q1 f1
                    replace HB : Bs w w3.heap.size ta tn tc L0 (((V3.setCell ⟨gT, 0, none⟩ (.slice tb um uc)).setCell ⟨gF, 0, none⟩ (.int .i64 code)).setCell ⟨gF, 1, none⟩ (.int .i64 pl1)) := (HB.set hF.at_ (by decide) (by decide) hF.hi.1 hF.hi.2).set (hF.put (i := 0) (u := .int .i64 code) (cs' := #[.int .i64 code, .int .i64 0]) rfl).at_ (by decide) (by decide) hF.hi.1 hF.hi.2
                    replace hI : Tr (((V3.setCell ⟨gT, 0, none⟩ (.slice tb um uc)).setCell ⟨gF, 0, none⟩ (.int .i64 code)).setCell ⟨gF, 1, none⟩ (.int .i64 pl1)) L1 tb um := (hI.set hF.at_ (by decide) (by decide)).set (hF.put (i := 0) (u := .int .i64 code) (cs' := #[.int .i64 code, .int .i64 0]) rfl).at_ (by decide) (by decide)
                    replace hT : Vr w w3.heap.size (((V3.setCell ⟨gT, 0, none⟩ (.slice tb um uc)).setCell ⟨gF, 0, none⟩ (.int .i64 code)).setCell ⟨gF, 1, none⟩ (.int .i64 pl1)) gT #[.slice tb um uc] 24 := (hT.other hF (by decide)).other (hF.put (i := 0) (u := .int .i64 code) (cs' := #[.int .i64 code, .int .i64 0]) rfl) (by decide)
                    replace hF : Vr w w3.heap.size (((V3.setCell ⟨gT, 0, none⟩ (.slice tb um uc)).setCell ⟨gF, 0, none⟩ (.int .i64 code)).setCell ⟨gF, 1, none⟩ (.int .i64 pl1)) gF #[.int .i64 code, .int .i64 pl1] 32 := (hF.put (i := 0) (u := .int .i64 code) (cs' := #[.int .i64 code, .int .i64 0]) rfl).put rfl
                    refine wpAnyX_done (by kernel_rfl) ?_ _
                    go_wp2_with fail
                    go_meet
                    exact ⟨gT, gF, tb, um, uc, rfl, rfl, hum, ⟨HB, hT.at_, hF.at_, hI⟩⟩
                  · intro K hK
                    refine alloc32_step rfl rfl rfl ?_
                    intro V6 gF hV hG
                    refine hK.out _ _ (fun _ => trivial) ?_
                    clear hK K
                    have lo := low_alloc V1 (.cells #[.int .i64 0, .int .i64 0] 32)
                    rw [← hV] at lo
                    replace hI := hI.below lo
                    have hF : Vr w w3.heap.size V6 gF #[.int .i64 0, .int .i64 0] 32 := by rw [hV, hG]; exact Vr.new HB #[.int .i64 0, .int .i64 0] 32
                    replace HB := HB.below lo
                    clear lo hV hG
                    simp only [Act.put]
                    refine wpAnyX_one (i := 22) rfl (by kernel_rfl) ?_
                    intro K hK
                    refine alloc24_step rfl rfl rfl ?_
                    intro V7 gT hV hG
                    refine hK.out _ _ (fun _ => trivial) ?_
                    clear hK K
                    have lo := low_alloc V6 (.cells #[.slice none 0 0] 24)
                    rw [← hV] at lo
                    replace hF := hF.below lo
                    replace hI := hI.below lo
                    have hT : Vr w w3.heap.size V7 gT #[.slice none 0 0] 24 := by rw [hV, hG]; exact Vr.new HB #[.slice none 0 0] 24
                    replace HB := HB.below lo
                    clear lo hV hG
                    simp only [Act.put]
                    refine wpAnyX_one (i := 24) rfl (by kernel_rfl) ?_
                    intro K hK
                    have q0 := blk (i := 0) hT.at_ rfl
                    have f0 := blkf 0 hT.at_
                    go_simp
                    refine hK.out _ _ (fun _ => trivial) ?_
                    clear hK K q0 f0
                    replace HB : Bs w w3.heap.size ta tn tc L0 (V7.setCell ⟨gT, 0, none⟩ (.slice tb um uc)) := HB.set hT.at_ (by decide) (by decide) hT.hi.1 hT.hi.2
                    replace hI : Tr (V7.setCell ⟨gT, 0, none⟩ (.slice tb um uc)) L1 tb um := hI.set hT.at_ (by decide) (by decide)
                    replace hF : Vr w w3.heap.size (V7.setCell ⟨gT, 0, none⟩ (.slice tb um uc)) gF #[.int .i64 0, .int .i64 0] 32 := hF.other hT (by decide)
                    replace hT : Vr w w3.heap.size (V7.setCell ⟨gT, 0, none⟩ (.slice tb um uc)) gT #[.slice tb um uc] 24 := hT.put rfl
                    refine wpAnyX_one (i := 25) rfl (by kernel_rfl) ?_
                    intro K hK
                    have q0 := blk (i := 0) hF.at_ rfl
                    have f0 := blkf 0 hF.at_
                    have q1 := blk (i := 1) hF.at_ rfl
                    have f1 := blkf 1 hF.at_
                    go_simp
                    refine hK.out _ _ (fun _ => trivial) ?_
                    clear hK K q0 f0 q1 f1
                    replace HB : Bs w w3.heap.size ta tn tc L0 (((V7.setCell ⟨gT, 0, none⟩ (.slice tb um uc)).setCell ⟨gF, 0, none⟩ (.int .i64 code)).setCell ⟨gF, 1, none⟩ (.int .i64 pl1)) := (HB.set hF.at_ (by decide) (by decide) hF.hi.1 hF.hi.2).set (hF.put (i := 0) (u := .int .i64 code) (cs' := #[.int .i64 code, .int .i64 0]) rfl).at_ (by decide) (by decide) hF.hi.1 hF.hi.2
                    replace hI : Tr (((V7.setCell ⟨gT, 0, none⟩ (.slice tb um uc)).setCell ⟨gF, 0, none⟩ (.int .i64 code)).setCell ⟨gF, 1, none⟩ (.int .i64 pl1)) L1 tb um := (hI.set hF.at_ (by decide) (by decide)).set (hF.put (i := 0) (u := .int .i64 code) (cs' := #[.int .i64 code, .int .i64 0]) rfl).at_ (by decide) (by decide)
                    replace hT : Vr w w3.heap.size (((V7.setCell ⟨gT, 0, none⟩ (.slice tb um uc)).setCell ⟨gF, 0, none⟩ (.int .i64 code)).setCell ⟨gF, 1, none⟩ (.int .i64 pl1)) gT #[.slice tb um uc] 24 := (hT.other hF (by decide)).other (hF.put (i := 0) (u := .int .i64 code) (cs' := #[.int .i64 code, .int .i64 0]) rfl) (by decide)
                    replace hF : Vr w w3.heap.size (((V7.setCell ⟨gT, 0, none⟩ (.slice tb um uc)).setCell ⟨gF, 0, none⟩ (.int .i64 code)).setCell ⟨gF, 1, none⟩ (.int .i64 pl1)) gF #[.int .i64 code, .int .i64 pl1] 32 := (hF.put (i := 0) (u := .int .i64 code) (cs' := #[.int .i64 code, .int .i64 0]) rfl).put rfl
                    refine wpAnyX_done (by kernel_rfl) ?_ _
                    go_wp2_with fail
                    go_meet
                    exact ⟨gT, gF, tb, um, uc, rfl, rfl, hum, ⟨HB, hT.at_, hF.at_, hI⟩⟩
                · intro K hK
                  refine alloc24_step rfl rfl rfl ?_
                  intro V10 gT hV hG
                  refine hK.out _ _ (fun _ => trivial) ?_
                  clear hK K
                  have lo := low_alloc w5.drew (.cells #[.slice none 0 0] 24)
                  rw [← hV] at lo
                  have hT : Vr w w3.heap.size V10 gT #[.slice none 0 0] 24 := by rw [hV, hG]; exact Vr.new HB #[.slice none 0 0] 24
                  replace HB := HB.below lo
                  clear lo hV hG
                  simp only [Act.put]
                  refine wpAnyX_two (i := 18) (j := 23) (by kernel_rfl) rfl rfl ?_ ?_
                  · intro K hK
                    go_simp
                    refine (HP1.out _).mono ?_
                    rintro e' V11 ⟨tb, um, uc, rfl, hum, hI6, hb6⟩
                    refine hK.out _ _ (fun _ => trivial) ?_
                    clear hK K
                    replace hT := hT.below hb6
                    have hI : Tr V11 L1 tb um := ⟨_, hI6⟩
                    replace HB := HB.below hb6
                    clear hb6 hI6
                    refine wpAnyX_take0 (i := 19) (v := .tuple #[.agg #[.slice tb um uc], .agg #[.int .i64 code, .int .i64 pl1]]) rfl (by kernel_rfl) (by decide) (by kernel_rfl) (by kernel_rfl) (fun _ _ _ h => h) trivial (Or.inl ⟨by rfl, by (intro W hW; go_simp)⟩) ?_
                    simp only [Act.put]
                    refine wpAnyX_take0 (i := 20) (v := .agg #[.slice tb um uc]) rfl (by kernel_rfl) (by decide) (by kernel_rfl) (by kernel_rfl) (fun _ _ _ h => h) trivial (Or.inl ⟨by rfl, by (intro W hW; go_simp)⟩) ?_
                    simp only [Act.put]
                    refine wpAnyX_take0 (i := 21) (v := .agg #[.int .i64 code, .int .i64 pl1]) rfl (by kernel_rfl) (by decide) (by kernel_rfl) (by kernel_rfl) (fun _ _ _ h => h) trivial (Or.inl ⟨by rfl, by (intro W hW; go_simp)⟩) ?_
                    simp only [Act.put]
                    refine wpAnyX_one (i := 23) rfl (by kernel_rfl) ?_
                    intro K hK
                    refine alloc32_step rfl rfl rfl ?_
                    intro V12 gF hV hG
                    refine hK.out _ _ (fun _ => trivial) ?_
                    clear hK K
                    have lo := low_alloc V11 (.cells #[.int .i64 0, .int .i64 0] 32)
                    rw [← hV] at lo
                    replace hT := hT.below lo
                    replace hI := hI.below lo
                    have hF : Vr w w3.heap.size V12 gF #[.int .i64 0, .int .i64 0] 32 := by rw [hV, hG]; exact Vr.new HB #[.int .i64 0, .int .i64 0] 32
                    replace HB := HB.below lo
                    clear lo hV hG
                    simp only [Act.put]
                    refine wpAnyX_one (i := 24) rfl (by kernel_rfl) ?_
                    intro K hK
                    have q0 := blk (i := 0) hT.at_ rfl
                    have f0 := blkf 0 hT.at_
                    go_simp
                    refine hK.out _ _ (fun _ => trivial) ?_
                    clear hK K q0 f0
                    replace HB : Bs w w3.heap.size ta tn tc L0 (V12.setCell ⟨gT, 0, none⟩ (.slice tb um uc)) := HB.set hT.at_ (by decide) (by decide) hT.hi.1 hT.hi.2
                    replace hI : Tr (V12.setCell ⟨gT, 0, none⟩ (.slice tb um uc)) L1 tb um := hI.set hT.at_ (by decide) (by decide)
                    replace hF : Vr w w3.heap.size (V12.setCell ⟨gT, 0, none⟩ (.slice tb um uc)) gF #[.int .i64 0, .int .i64 0] 32 := hF.other hT (by decide)
                    replace hT : Vr w w3.heap.size (V12.setCell ⟨gT, 0, none⟩ (.slice tb um uc)) gT #[.slice tb um uc] 24 := hT.put rfl
                    refine wpAnyX_one (i := 25) rfl (by kernel_rfl) ?_
                    intro K hK
                    have q0 := blk (i := 0) hF.at_ rfl
                    have f0 := blkf 0 hF.at_
                    have q1 := blk (i := 1) hF.at_ rfl
                    have f1 := blkf 1 hF.at_
                    go_simp
                    refine hK.out _ _ (fun _ => trivial) ?_
                    clear hK K q0 f0 q1 f1
                    replace HB : Bs w w3.heap.size ta tn tc L0 (((V12.setCell ⟨gT, 0, none⟩ (.slice tb um uc)).setCell ⟨gF, 0, none⟩ (.int .i64 code)).setCell ⟨gF, 1, none⟩ (.int .i64 pl1)) := (HB.set hF.at_ (by decide) (by decide) hF.hi.1 hF.hi.2).set (hF.put (i := 0) (u := .int .i64 code) (cs' := #[.int .i64 code, .int .i64 0]) rfl).at_ (by decide) (by decide) hF.hi.1 hF.hi.2
                    replace hI : Tr (((V12.setCell ⟨gT, 0, none⟩ (.slice tb um uc)).setCell ⟨gF, 0, none⟩ (.int .i64 code)).setCell ⟨gF, 1, none⟩ (.int .i64 pl1)) L1 tb um := (hI.set hF.at_ (by decide) (by decide)).set (hF.put (i := 0) (u := .int .i64 code) (cs' := #[.int .i64 code, .int .i64 0]) rfl).at_ (by decide) (by decide)
                    replace hT : Vr w w3.heap.size (((V12.setCell ⟨gT, 0, none⟩ (.slice tb um uc)).setCell ⟨gF, 0, none⟩ (.int .i64 code)).setCell ⟨gF, 1, none⟩ (.int .i64 pl1)) gT #[.slice tb um uc] 24 := (hT.other hF (by decide)).other (hF.put (i := 0) (u := .int .i64 code) (cs' := #[.int .i64 code, .int .i64 0]) rfl) (by decide)
                    replace hF : Vr w w3.heap.size (((V12.setCell ⟨gT, 0, none⟩ (.slice tb um uc)).setCell ⟨gF, 0, none⟩ (.int .i64 code)).setCell ⟨gF, 1, none⟩ (.int .i64 pl1)) gF #[.int .i64 code, .int .i64 pl1] 32 := (hF.put (i := 0) (u := .int .i64 code) (cs' := #[.int .i64 code, .int .i64 0]) rfl).put rfl
                    refine wpAnyX_done (by kernel_rfl) ?_ _
                    go_wp2_with fail
                    go_meet
                    exact ⟨gT, gF, tb, um, uc, rfl, rfl, hum, ⟨HB, hT.at_, hF.at_, hI⟩⟩
                  · intro K hK
                    refine alloc32_step rfl rfl rfl ?_
                    intro V15 gF hV hG
                    refine hK.out _ _ (fun _ => trivial) ?_
                    clear hK K
                    have lo := low_alloc V10 (.cells #[.int .i64 0, .int .i64 0] 32)
                    rw [← hV] at lo
                    replace hT := hT.below lo
                    have hF : Vr w w3.heap.size V15 gF #[.int .i64 0, .int .i64 0] 32 := by rw [hV, hG]; exact Vr.new HB #[.int .i64 0, .int .i64 0] 32
                    replace HB := HB.below lo
                    clear lo hV hG
                    simp only [Act.put]
                    refine wpAnyX_one (i := 18) rfl (by kernel_rfl) ?_
                    intro K hK
                    go_simp
                    refine (HP1.out _).mono ?_
                    rintro e' V16 ⟨tb, um, uc, rfl, hum, hI6, hb6⟩
                    refine hK.out _ _ (fun _ => trivial) ?_
                    clear hK K
                    replace hT := hT.below hb6
                    replace hF := hF.below hb6
                    have hI : Tr V16 L1 tb um := ⟨_, hI6⟩
                    replace HB := HB.below hb6
                    clear hb6 hI6
                    refine wpAnyX_take0 (i := 19) (v := .tuple #[.agg #[.slice tb um uc], .agg #[.int .i64 code, .int .i64 pl1]]) rfl (by kernel_rfl) (by decide) (by kernel_rfl) (by kernel_rfl) (fun _ _ _ h => h) trivial (Or.inl ⟨by rfl, by (intro W hW; go_simp)⟩) ?_
                    simp only [Act.put]
                    refine wpAnyX_take0 (i := 20) (v := .agg #[.slice tb um uc]) rfl (by kernel_rfl) (by decide) (by kernel_rfl) (by kernel_rfl) (fun _ _ _ h => h) trivial (Or.inl ⟨by rfl, by (intro W hW; go_simp)⟩) ?_
                    simp only [Act.put]
                    refine wpAnyX_take0 (i := 21) (v := .agg #[.int .i64 code, .int .i64 pl1]) rfl (by kernel_rfl) (by decide) (by kernel_rfl) (by kernel_rfl) (fun _ _ _ h => h) trivial (Or.inl ⟨by rfl, by (intro W hW; go_simp)⟩) ?_
                    simp only [Act.put]
                    refine wpAnyX_one (i := 24) rfl (by kernel_rfl) ?_
                    intro K hK
                    have q0 := blk (i := 0) hT.at_ rfl
                    have f0 := blkf 0 hT.at_
                    go_simp
                    refine hK.out _ _ (fun _ => trivial) ?_
                    clear hK K q0 f0
                    replace HB : Bs w w3.heap.size ta tn tc L0 (V16.setCell ⟨gT, 0, none⟩ (.slice tb um uc)) := HB.set hT.at_ (by decide) (by decide) hT.hi.1 hT.hi.2
                    replace hI : Tr (V16.setCell ⟨gT, 0, none⟩ (.slice tb um uc)) L1 tb um := hI.set hT.at_ (by decide) (by decide)
                    replace hF : Vr w w3.heap.size (V16.setCell ⟨gT, 0, none⟩ (.slice tb um uc)) gF #[.int .i64 0, .int .i64 0] 32 := hF.other hT (by decide)
                    replace hT : Vr w w3.heap.size (V16.setCell ⟨gT, 0, none⟩ (.slice tb um uc)) gT #[.slice tb um uc] 24 := hT.put rfl
                    refine wpAnyX_one (i := 25) rfl (by kernel_rfl) ?_
                    intro K hK
                    have q0 := blk (i := 0) hF.at_ rfl
                    have f0 := blkf 0 hF.at_
                    have q1 := blk (i := 1) hF.at_ rfl
                    have f1 := blkf 1 hF.at_
                    go_simp
                    refine hK.out _ _ (fun _ => trivial) ?_
                    clear hK K q0 f0 q1 f1
                    replace HB : Bs w w3.heap.size ta tn tc L0 (((V16.setCell ⟨gT, 0, none⟩ (.slice tb um uc)).setCell ⟨gF, 0, none⟩ (.int .i64 code)).setCell ⟨gF, 1, none⟩ (.int .i64 pl1)) := (HB.set hF.at_ (by decide) (by decide) hF.hi.1 hF.hi.2).set (hF.put (i := 0) (u := .int .i64 code) (cs' := #[.int .i64 code, .int .i64 0]) rfl).at_ (by decide) (by decide) hF.hi.1 hF.hi.2
                    replace hI : Tr (((V16.setCell ⟨gT, 0, none⟩ (.slice tb um uc)).setCell ⟨gF, 0, none⟩ (.int .i64 code)).setCell ⟨gF, 1, none⟩ (.int .i64 pl1)) L1 tb um := (hI.set hF.at_ (by decide) (by decide)).set (hF.put (i := 0) (u := .int .i64 code) (cs' := #[.int .i64 code, .int .i64 0]) rfl).at_ (by decide) (by decide)
                    replace hT : Vr w w3.heap.size (((V16.setCell ⟨gT, 0, none⟩ (.slice tb um uc)).setCell ⟨gF, 0, none⟩ (.int .i64 code)).setCell ⟨gF, 1, none⟩ (.int .i64 pl1)) gT #[.slice tb um uc] 24 := (hT.other hF (by decide)).other (hF.put (i := 0) (u := .int .i64 code) (cs' := #[.int .i64 code, .int .i64 0]) rfl) (by decide)
                    replace hF : Vr w w3.heap.size (((V16.setCell ⟨gT, 0, none⟩ (.slice tb um uc)).setCell ⟨gF, 0, none⟩ (.int .i64 code)).setCell ⟨gF, 1, none⟩ (.int .i64 pl1)) gF #[.int .i64 code, .int .i64 pl1] 32 := (hF.put (i := 0) (u := .int .i64 code) (cs' := #[.int .i64 code, .int .i64 0]) rfl).put rfl
                    refine wpAnyX_done (by kernel_rfl) ?_ _
                    go_wp2_with fail
                    go_meet
                    exact ⟨gT, gF, tb, um, uc, rfl, rfl, hum, ⟨HB, hT.at_, hF.at_, hI⟩⟩
                · intro K hK
                  refine alloc32_step rfl rfl rfl ?_
                  intro V19 gF hV hG
                  refine hK.out _ _ (fun _ => trivial) ?_
                  clear hK K
                  have lo := low_alloc w5.drew (.cells #[.int .i64 0, .int .i64 0] 32)
                  rw [← hV] at lo
                  have hF : Vr w w3.heap.size V19 gF #[.int .i64 0, .int .i64 0] 32 := by rw [hV, hG]; exact Vr.new HB #[.int .i64 0, .int .i64 0] 32
                  replace HB := HB.below lo
                  clear lo hV hG
                  simp only [Act.put]
                  refine wpAnyX_two (i := 18) (j := 22) (by kernel_rfl) rfl rfl ?_ ?_
                  · intro K hK
                    go_simp
                    refine (HP1.out _).mono ?_
                    rintro e' V20 ⟨tb, um, uc, rfl, hum, hI6, hb6⟩
                    refine hK.out _ _ (fun _ => trivial) ?_
                    clear hK K
                    replace hF := hF.below hb6
                    have hI : Tr V20 L1 tb um := ⟨_, hI6⟩
                    replace HB := HB.below hb6
                    clear hb6 hI6
                    refine wpAnyX_take0 (i := 19) (v := .tuple #[.agg #[.slice tb um uc], .agg #[.int .i64 code, .int .i64 pl1]]) rfl (by kernel_rfl) (by decide) (by kernel_rfl) (by kernel_rfl) (fun _ _ _ h => h) trivial (Or.inl ⟨by rfl, by (intro W hW; go_simp)⟩) ?_
                    simp only [Act.put]
                    refine wpAnyX_take0 (i := 20) (v := .agg #[.slice tb um uc]) rfl (by kernel_rfl) (by decide) (by kernel_rfl) (by kernel_rfl) (fun _ _ _ h => h) trivial (Or.inl ⟨by rfl, by (intro W hW; go_simp)⟩) ?_
                    simp only [Act.put]
                    refine wpAnyX_take0 (i := 21) (v := .agg #[.int .i64 code, .int .i64 pl1]) rfl (by kernel_rfl) (by decide) (by kernel_rfl) (by kernel_rfl) (fun _ _ _ h => h) trivial (Or.inl ⟨by rfl, by (intro W hW; go_simp)⟩) ?_
                    simp only [Act.put]
                    refine wpAnyX_one (i := 22) rfl (by kernel_rfl) ?_
                    intro K hK
                    refine alloc24_step rfl rfl rfl ?_
                    intro V21 gT hV hG
                    refine hK.out _ _ (fun _ => trivial) ?_
                    clear hK K
                    have lo := low_alloc V20 (.cells #[.slice none 0 0] 24)
                    rw [← hV] at lo
                    replace hF := hF.below lo
                    replace hI := hI.below lo
                    have hT : Vr w w3.heap.size V21 gT #[.slice none 0 0] 24 := by rw [hV, hG]; exact Vr.new HB #[.slice none 0 0] 24
                    replace HB := HB.below lo
                    clear lo hV hG
                    simp only [Act.put]
                    refine wpAnyX_one (i := 24) rfl (by kernel_rfl) ?_
                    intro K hK
                    have q0 := blk (i := 0) hT.at_ rfl
                    have f0 := blkf 0 hT.at_
                    go_simp
                    refine hK.out _ _ (fun _ => trivial) ?_
                    clear hK K q0 f0
                    replace HB : Bs w w3.heap.size ta tn tc L0 (V21.setCell ⟨gT, 0, none⟩ (.slice tb um uc)) := HB.set hT.at_ (by decide) (by decide) hT.hi.1 hT.hi.2
                    replace hI : Tr (V21.setCell ⟨gT, 0, none⟩ (.slice tb um uc)) L1 tb um := hI.set hT.at_ (by decide) (by decide)
                    replace hF : Vr w w3.heap.size (V21.setCell ⟨gT, 0, none⟩ (.slice tb um uc)) gF #[.int .i64 0, .int .i64 0] 32 := hF.other hT (by decide)
                    replace hT : Vr w w3.heap.size (V21.setCell ⟨gT, 0, none⟩ (.slice tb um uc)) gT #[.slice tb um uc] 24 := hT.put rfl
                    refine wpAnyX_one (i := 25) rfl (by kernel_rfl) ?_
                    intro K hK
                    have q0 := blk (i := 0) hF.at_ rfl
                    have f0 := blkf 0 hF.at_
                    have q1 := blk (i := 1) hF.at_ rfl
                    have f1 := blkf 1 hF.at_
                    go_simp
                    refine hK.out _ _ (fun _ => trivial) ?_
                    clear hK K q0 f0 q1 f1
                    replace HB : Bs w w3.heap.size ta tn tc L0 (((V21.setCell ⟨gT, 0, none⟩ (.slice tb um uc)).setCell ⟨gF, 0, none⟩ (.int .i64 code)).setCell ⟨gF, 1, none⟩ (.int .i64 pl1)) := (HB.set hF.at_ (by decide) (by decide) hF.hi.1 hF.hi.2).set (hF.put (i := 0) (u := .int .i64 code) (cs' := #[.int .i64 code, .int .i64 0]) rfl).at_ (by decide) (by decide) hF.hi.1 hF.hi.2
                    replace hI : Tr (((V21.setCell ⟨gT, 0, none⟩ (.slice tb um uc)).setCell ⟨gF, 0, none⟩ (.int .i64 code)).setCell ⟨gF, 1, none⟩ (.int .i64 pl1)) L1 tb um := (hI.set hF.at_ (by decide) (by decide)).set (hF.put (i := 0) (u := .int .i64 code) (cs' := #[.int .i64 code, .int .i64 0]) rfl).at_ (by decide) (by decide)
                    replace hT : Vr w w3.heap.size (((V21.setCell ⟨gT, 0, none⟩ (.slice tb um uc)).setCell ⟨gF, 0, none⟩ (.int .i64 code)).setCell ⟨gF, 1, none⟩ (.int .i64 pl1)) gT #[.slice tb um uc] 24 := (hT.other hF (by decide)).other (hF.put (i := 0) (u := .int .i64 code) (cs' := #[.int .i64 code, .int .i64 0]) rfl) (by decide)
                    replace hF : Vr w w3.heap.size (((V21.setCell ⟨gT, 0, none⟩ (.slice tb um uc)).setCell ⟨gF, 0, none⟩ (.int .i64 code)).setCell ⟨gF, 1, none⟩ (.int .i64 pl1)) gF #[.int .i64 code, .int .i64 pl1] 32 := (hF.put (i := 0) (u := .int .i64 code) (cs' := #[.int .i64 code, .int .i64 0]) rfl).put rfl
                    refine wpAnyX_done (by kernel_rfl) ?_ _
                    go_wp2_with fail
                    go_meet
                    exact ⟨gT, gF, tb, um, uc, rfl, rfl, hum, ⟨HB, hT.at_, hF.at_, hI⟩⟩
                  · intro K hK
                    refine alloc24_step rfl rfl rfl ?_
                    intro V24 gT hV hG
                    refine hK.out _ _ (fun _ => trivial) ?_
                    clear hK K
                    have lo := low_alloc V19 (.cells #[.slice none 0 0] 24)
                    rw [← hV] at lo
                    replace hF := hF.below lo
                    have hT : Vr w w3.heap.size V24 gT #[.slice none 0 0] 24 := by rw [hV, hG]; exact Vr.new HB #[.slice none 0 0] 24
                    replace HB := HB.below lo
                    clear lo hV hG
                    simp only [Act.put]
                    refine wpAnyX_one (i := 18) rfl (by kernel_rfl) ?_
                    intro K hK
                    go_simp
                    refine (HP1.out _).mono ?_
                    rintro e' V25 ⟨tb, um, uc, rfl, hum, hI6, hb6⟩
                    refine hK.out _ _ (fun _ => trivial) ?_
                    clear hK K
                    replace hT := hT.below hb6
                    replace hF := hF.below hb6
                    have hI : Tr V25 L1 tb um := ⟨_, hI6⟩
                    replace HB := HB.below hb6
                    clear hb6 hI6
                    refine wpAnyX_take0 (i := 19) (v := .tuple #[.agg #[.slice tb um uc], .agg #[.int .i64 code, .int .i64 pl1]]) rfl (by kernel_rfl) (by decide) (by kernel_rfl) (by kernel_rfl) (fun _ _ _ h => h) trivial (Or.inl ⟨by rfl, by (intro W hW; go_simp)⟩) ?_
                    simp only [Act.put]
                    refine wpAnyX_take0 (i := 20) (v := .agg #[.slice tb um uc]) rfl (by kernel_rfl) (by decide) (by kernel_rfl) (by kernel_rfl) (fun _ _ _ h => h) trivial (Or.inl ⟨by rfl, by (intro W hW; go_simp)⟩) ?_
                    simp only [Act.put]
                    refine wpAnyX_take0 (i := 21) (v := .agg #[.int .i64 code, .int .i64 pl1]) rfl (by kernel_rfl) (by decide) (by kernel_rfl) (by kernel_rfl) (fun _ _ _ h => h) trivial (Or.inl ⟨by rfl, by (intro W hW; go_simp)⟩) ?_
                    simp only [Act.put]
                    refine wpAnyX_one (i := 24) rfl (by kernel_rfl) ?_
                    intro K hK
                    have q0 := blk (i := 0) hT.at_ rfl
                    have f0 := blkf 0 hT.at_
                    go_simp
                    refine hK.out _ _ (fun _ => trivial) ?_
                    clear hK K q0 f0
                    replace HB : Bs w w3.heap.size ta tn tc L0 (V25.setCell ⟨gT, 0, none⟩ (.slice tb um uc)) := HB.set hT.at_ (by decide) (by decide) hT.hi.1 hT.hi.2
                    replace hI : Tr (V25.setCell ⟨gT, 0, none⟩ (.slice tb um uc)) L1 tb um := hI.set hT.at_ (by decide) (by decide)
                    replace hF : Vr w w3.heap.size (V25.setCell ⟨gT, 0, none⟩ (.slice tb um uc)) gF #[.int .i64 0, .int .i64 0] 32 := hF.other hT (by decide)
                    replace hT : Vr w w3.heap.size (V25.setCell ⟨gT, 0, none⟩ (.slice tb um uc)) gT #[.slice tb um uc] 24 := hT.put rfl
                    refine wpAnyX_one (i := 25) rfl (by kernel_rfl) ?_
                    intro K hK
                    have q0 := blk (i := 0) hF.at_ rfl
                    have f0 := blkf 0 hF.at_
                    have q1 := blk (i := 1) hF.at_ rfl
                    have f1 := blkf 1 hF.at_
                    go_simp
                    refine hK.out _ _ (fun _ => trivial) ?_
                    clear hK K q0 f0 q1 f1
                    replace HB : Bs w w3.heap.size ta tn tc L0 (((V25.setCell ⟨gT, 0, none⟩ (.slice tb um uc)).setCell ⟨gF, 0, none⟩ (.int .i64 code)).setCell ⟨gF, 1, none⟩ (.int .i64 pl1)) := (HB.set hF.at_ (by decide) (by decide) hF.hi.1 hF.hi.2).set (hF.put (i := 0) (u := .int .i64 code) (cs' := #[.int .i64 code, .int .i64 0]) rfl).at_ (by decide) (by decide) hF.hi.1 hF.hi.2
                    replace hI : Tr (((V25.setCell ⟨gT, 0, none⟩ (.slice tb um uc)).setCell ⟨gF, 0, none⟩ (.int .i64 code)).setCell ⟨gF, 1, none⟩ (.int .i64 pl1)) L1 tb um := (hI.set hF.at_ (by decide) (by decide)).set (hF.put (i := 0) (u := .int .i64 code) (cs' := #[.int .i64 code, .int .i64 0]) rfl).at_ (by decide) (by decide)
                    replace hT : Vr w w3.heap.size (((V25.setCell ⟨gT, 0, none⟩ (.slice tb um uc)).setCell ⟨gF, 0, none⟩ (.int .i64 code)).setCell ⟨gF, 1, none⟩ (.int .i64 pl1)) gT #[.slice tb um uc] 24 := (hT.other hF (by decide)).other (hF.put (i := 0) (u := .int .i64 code) (cs' := #[.int .i64 code, .int .i64 0]) rfl) (by decide)
                    replace hF : Vr w w3.heap.size (((V25.setCell ⟨gT, 0, none⟩ (.slice tb um uc)).setCell ⟨gF, 0, none⟩ (.int .i64 code)).setCell ⟨gF, 1, none⟩ (.int .i64 pl1)) gF #[.int .i64 code, .int .i64 pl1] 32 := (hF.put (i := 0) (u := .int .i64 code) (cs' := #[.int .i64 code, .int .i64 0]) rfl).put rfl
                    refine wpAnyX_done (by kernel_rfl) ?_ _
                    go_wp2_with fail
                    go_meet
                    exact ⟨gT, gF, tb, um, uc, rfl, rfl, hum, ⟨HB, hT.at_, hF.at_, hI⟩⟩
              case rest =>
                obtain ⟨gT, gF, tb, um, uc, rfl, rfl, hum, HR⟩ := hcut
                clear HB sl1 sl2 sl3 e1 e2 e3 e4 e5 e6 wi wz HP1
                have HSm : Hid (Calls Tryd.prog 13 #[.agg #[.slice tb um uc], .agg #[.slice ta tn tc]] wc fun e w' => e = .returned (.bool (sameI L1 L0)) ∧ Below wc.heap.size wc w') := by
                  obtain ⟨X, hX⟩ := HR.out.2.2.2
                  obtain ⟨Y, hY⟩ := HR.out.1.2.2
                  exact same_calls L1 L0 tb ta um uc tn tc wc true true X Y hX hY (by unfold maxLen; omega) (by unfold maxLen; omega)
                have t0 := blk (i := 0) HR.out.2.1 rfl
                have t1 := blk (i := 0) HR.out.1.2.1 rfl
                have hcz : code = 0 → sameI L1 L0 = false := fun h => by
                  have := HZ.out
                  simp only [h, true_and] at this
                  simpa using this
                generalize sameI L1 L0 = sm at *
                clear HZ
                go_wp2_with fail
                refine HSm.out.mono ?_
                rintro e w7 ⟨rfl, hb7⟩
                have HB7 : Hid (Bs w w3.heap.size ta tn tc L0 w7) := HR.out.1.below hb7
                have t2 := blk (i := 0) (show w7.heap[gF]? = _ by rw [hb7.block _ (lt_block HR.out.2.2.1)]; exact HR.out.2.2.1) rfl
                clear hb7 HR HSm t0 t1
                by_cases hc0 : code = 0
                · have hcb : (code == 0) = true := by simpa using hc0
                  have hsm := hcz hc0
                  subst hsm
                  clear hcz hc0
                  go_wp2
                  go_roundg (gk - 1)
                  case measure => omega
                  case rel => exact ⟨i + 1, false, rfl, by go_num, by omega, HN.out, HB7.out⟩
                · have hcb : (code == 0) = false := by simpa using hc0
                  clear hcz hc0
                  go_wp2
                  go_roundg (gk - 1)
                  case measure => omega
                  case rel => exact ⟨i + 1, false, rfl, by go_num, by omega, HN.out, HB7.out⟩
            · have hd0 : 0 < i := by omega
              have hbd : 1 ≤ (i : Int) ∧ (i : Int) - 1 < (s.size : Int) := by omega
              have hml : i - 1 < s.size := by omega
              clear hi0
              by_cases h110 : ((s[i - 1].toNat : Nat) : Int) = 110
              · go_wp2
                go_roundg (gk - 1)
                case measure => omega
                case rel => exact ⟨i + 1, false, rfl, by go_num, by omega, HN.out, HB.out⟩
              · by_cases h120 : ((s[i - 1].toNat : Nat) : Int) = 120
                · go_wp2
                  go_roundg (gk - 1)
                  case measure => omega
                  case rel => exact ⟨i + 1, false, rfl, by go_num, by omega, HN.out, HB.out⟩
                · have b110 : (((s[i - 1].toNat : Nat) : Int) == 110) = false := by rw [beq_eq_false_iff_ne]; exact h110
                  have b120 : (((s[i - 1].toNat : Nat) : Int) == 120) = false := by rw [beq_eq_false_iff_ne]; exact h120
                  have n110 : ¬ (s[i - 1].toNat = 110) := by omega
                  have n120 : ¬ (s[i - 1].toNat = 120) := by omega
                  go_wp2_with fail
                  refine (HC2.out _).mono ?_
                  rintro e w5 ⟨rfl, rfl⟩
                  clear HC2
                  go_upto_region 18 with (fail)
                  have wi : IntKind.i64.wrap ((i : Int) + 1) = (i : Int) + 1 := by rw [IntKind.wrap_i64]; omega
                  have wz : IntKind.i64.wrap ((z : Int) + 1) = (z : Int) + 1 := by rw [IntKind.wrap_i64]; omega
                  go_cut [11, 12] (fun tv hv wc => ∃ gT gF tb um uc, tv = .pointer (some ⟨gT, 0, none⟩) ∧ hv = .pointer (some ⟨gF, 0, none⟩) ∧ um ≤ 4002 ∧ Hid (Bs w w3.heap.size ta tn tc L0 wc ∧ wc.heap[gT]? = some (.cells #[.slice tb um uc] 24 (0, 0)) ∧ wc.heap[gF]? = some (.cells #[.int .i64 code, .int .i64 pl1] 32 (0, 0)) ∧ Tr wc L1 tb um))
                  case first =>
                    refine wp_region_X 26 (fun _ => True) (by kernel_rfl) ?_
                    refine wpAnyX_take0 (i := 0) (v := .string s) rfl (by kernel_rfl) (by decide) (by kernel_rfl) (by kernel_rfl) (fun _ _ _ h => h) trivial (Or.inl ⟨by rfl, by (intro W hW; go_simp)⟩) ?_
                    simp only [Act.put]
                    refine wpAnyX_take0 (i := 1) (v := .int .i64 (i : Int)) rfl (by kernel_rfl) (by decide) (by kernel_rfl) (by kernel_rfl) (fun _ _ _ h => h) trivial (Or.inl ⟨by rfl, by (intro W hW; go_simp)⟩) ?_
                    simp only [Act.put]
                    refine wpAnyX_take0 (i := 2) (v := .string p1) rfl (by kernel_rfl) (by decide) (by kernel_rfl) (by kernel_rfl) (fun _ _ _ h => h) trivial (Or.inl ⟨by rfl, by (intro W hW; go_simp)⟩) ?_
                    simp only [Act.put]
                    refine wpAnyX_take0 (i := 3) (v := .string c1) rfl (by kernel_rfl) (by decide) (by kernel_rfl) (by kernel_rfl) (fun _ _ _ h => h) trivial (Or.inl ⟨by rfl, by (intro W hW; go_simp)⟩) ?_
                    simp only [Act.put]
                    refine wpAnyX_take0 (i := 4) (v := .string c2) rfl (by kernel_rfl) (by decide) (by kernel_rfl) (by kernel_rfl) (fun _ _ _ h => h) trivial (Or.inl ⟨by rfl, by (intro W hW; go_simp)⟩) ?_
                    simp only [Act.put]
                    refine wpAnyX_take0 (i := 5) (v := .string s) rfl (by kernel_rfl) (by decide) (by kernel_rfl) (by kernel_rfl) (fun _ _ _ h => h) trivial (Or.inl ⟨by rfl, by (intro W hW; go_simp)⟩) ?_
                    simp only [Act.put]
                    refine wpAnyX_take0 (i := 6) (v := .int .i64 (i : Int)) rfl (by kernel_rfl) (by decide) (by kernel_rfl) (by kernel_rfl) (fun _ _ _ h => h) trivial (Or.inl ⟨by rfl, by (intro W hW; go_simp)⟩) ?_
                    simp only [Act.put]
                    refine wpAnyX_take0 (i := 7) (v := .int .i64 ((i : Int) + 1)) rfl (by kernel_rfl) (by decide) (by kernel_rfl) (by kernel_rfl) (fun _ _ _ h => h) trivial (Or.inl ⟨by rfl, by (intro W hW; go_simp)⟩) ?_
                    simp only [Act.put]
                    refine wpAnyX_take0 (i := 8) (v := .int .i64 (z : Int)) rfl (by kernel_rfl) (by decide) (by kernel_rfl) (by kernel_rfl) (fun _ _ _ h => h) trivial (Or.inl ⟨by rfl, by (intro W hW; go_simp)⟩) ?_
                    simp only [Act.put]
                    refine wpAnyX_take0 (i := 9) (v := .string p2) rfl (by kernel_rfl) (by decide) (by kernel_rfl) (by kernel_rfl) (fun _ _ _ h => h) trivial (Or.inl ⟨by rfl, by (intro W hW; go_simp)⟩) ?_
                    simp only [Act.put]
                    refine wpAnyX_take0 (i := 10) (v := .string c3) rfl (by kernel_rfl) (by decide) (by kernel_rfl) (by kernel_rfl) (fun _ _ _ h => h) trivial (Or.inl ⟨by rfl, by (intro W hW; go_simp)⟩) ?_
                    simp only [Act.put]
                    refine wpAnyX_take0 (i := 11) (v := .string c4) rfl (by kernel_rfl) (by decide) (by kernel_rfl) (by kernel_rfl) (fun _ _ _ h => h) trivial (Or.inl ⟨by rfl, by (intro W hW; go_simp)⟩) ?_
                    simp only [Act.put]
                    refine wpAnyX_take0 (i := 12) (v := .string s) rfl (by kernel_rfl) (by decide) (by kernel_rfl) (by kernel_rfl) (fun _ _ _ h => h) trivial (Or.inl ⟨by rfl, by (intro W hW; go_simp)⟩) ?_
                    simp only [Act.put]
                    refine wpAnyX_take0 (i := 13) (v := .int .i64 (z : Int)) rfl (by kernel_rfl) (by decide) (by kernel_rfl) (by kernel_rfl) (fun _ _ _ h => h) trivial (Or.inl ⟨by rfl, by (intro W hW; go_simp)⟩) ?_
                    simp only [Act.put]
                    refine wpAnyX_take0 (i := 14) (v := .int .i64 ((z : Int) + 1)) rfl (by kernel_rfl) (by decide) (by kernel_rfl) (by kernel_rfl) (fun _ _ _ h => h) trivial (Or.inl ⟨by rfl, by (intro W hW; go_simp)⟩) ?_
                    simp only [Act.put]
                    refine wpAnyX_take0 (i := 15) (v := .string p3) rfl (by kernel_rfl) (by decide) (by kernel_rfl) (by kernel_rfl) (fun _ _ _ h => h) trivial (Or.inl ⟨by rfl, by (intro W hW; go_simp)⟩) ?_
                    simp only [Act.put]
                    refine wpAnyX_take0 (i := 16) (v := .string c5) rfl (by kernel_rfl) (by decide) (by kernel_rfl) (by kernel_rfl) (fun _ _ _ h => h) trivial (Or.inl ⟨by rfl, by (intro W hW; go_simp)⟩) ?_
                    simp only [Act.put]
                    refine wpAnyX_take0 (i := 17) (v := .string c6) rfl (by kernel_rfl) (by decide) (by kernel_rfl) (by kernel_rfl) (fun _ _ _ h => h) trivial (Or.inl ⟨by rfl, by (intro W hW; go_simp)⟩) ?_
                    simp only [Act.put]
                    replace HB : Bs w w3.heap.size ta tn tc L0 w5.drew := HB.out.below (Below.drew (Below.refl w5.heap.size w5))
                    refine wpAnyX_three (i := 18) (j := 22) (l := 23) (by kernel_rfl) rfl rfl rfl ?_ ?_ ?_
                    · intro K hK
                      go_simp
                      refine (HP1.out _).mono ?_
                      rintro e' V1 ⟨tb, um, uc, rfl, hum, hI6, hb6⟩
                      refine hK.out _ _ (fun _ => trivial) ?_
                      clear hK K
                      have hI : Tr V1 L1 tb um := ⟨_, hI6⟩
                      replace HB := HB.below hb6
                      clear hb6 hI6
                      refine wpAnyX_take0 (i := 19) (v := .tuple #[.agg #[.slice tb um uc], .agg #[.int .i64 code, .int .i64 pl1]]) rfl (by kernel_rfl) (by decide) (by kernel_rfl) (by kernel_rfl) (fun _ _ _ h => h) trivial (Or.inl ⟨by rfl, by (intro W hW; go_simp)⟩) ?_
                      simp only [Act.put]
                      refine wpAnyX_take0 (i := 20) (v := .agg #[.slice tb um uc]) rfl (by kernel_rfl) (by decide) (by kernel_rfl) (by kernel_rfl) (fun _ _ _ h => h) trivial (Or.inl ⟨by rfl, by (intro W hW; go_simp)⟩) ?_
                      simp only [Act.put]
                      refine wpAnyX_take0 (i := 21) (v := .agg #[.int .i64 code, .int .i64 pl1]) rfl (by kernel_rfl) (by decide) (by kernel_rfl) (by kernel_rfl) (fun _ _ _ h => h) trivial (Or.inl ⟨by rfl, by (intro W hW; go_simp)⟩) ?_
                      simp only [Act.put]
                      refine wpAnyX_two (i := 22) (j := 23) (by kernel_rfl) rfl rfl ?_ ?_
                      · intro K hK
                        refine alloc24_step rfl rfl rfl ?_
                        intro V2 gT hV hG
                        refine hK.out _ _ (fun _ => trivial) ?_
                        clear hK K
                        have lo := low_alloc V1 (.cells #[.slice none 0 0] 24)
                        rw [← hV] at lo
                        replace hI := hI.below lo
                        have hT : Vr w w3.heap.size V2 gT #[.slice none 0 0] 24 := by rw [hV, hG]; exact Vr.new HB #[.slice none 0 0] 24
                        replace HB := HB.below lo
                        clear lo hV hG
                        simp only [Act.put]
                        refine wpAnyX_one (i := 23) rfl (by kernel_rfl) ?_
                        intro K hK
                        refine alloc32_step rfl rfl rfl ?_
                        intro V3 gF hV hG
                        refine hK.out _ _ (fun _ => trivial) ?_
                        clear hK K
                        have lo := low_alloc V2 (.cells #[.int .i64 0, .int .i64 0] 32)
                        rw [← hV] at lo
                        replace hT := hT.below lo
                        replace hI := hI.below lo
                        have hF : Vr w w3.heap.size V3 gF #[.int .i64 0, .int .i64 0] 32 := by rw [hV, hG]; exact Vr.new HB #[.int .i64 0, .int .i64 0] 32
                        replace HB := HB.below lo
                        clear lo hV hG
                        simp only [Act.put]
                        refine wpAnyX_one (i := 24) rfl (by kernel_rfl) ?_
                        intro K hK
                        have q0 := blk (i := 0) hT.at_ rfl
                        have f0 := blkf 0 hT.at_
                        go_simp
                        refine hK.out _ _ (fun _ => trivial) ?_
                        clear hK K q0 f0
                        replace HB : Bs w w3.heap.size ta tn tc L0 (V3.setCell ⟨gT, 0, none⟩ (.slice tb um uc)) := HB.set hT.at_ (by decide) (by decide) hT.hi.1 hT.hi.2
                        replace hI : Tr (V3.setCell ⟨gT, 0, none⟩ (.slice tb um uc)) L1 tb um := hI.set hT.at_ (by decide) (by decide)
                        replace hF : Vr w w3.heap.size (V3.setCell ⟨gT, 0, none⟩ (.slice tb um uc)) gF #[.int .i64 0, .int .i64 0] 32 := hF.other hT (by decide)
                        replace hT : Vr w w3.heap.size (V3.setCell ⟨gT, 0, none⟩ (.slice tb um uc)) gT #[.slice tb um uc] 24 := hT.put rfl
                        refine wpAnyX_one (i := 25) rfl (by kernel_rfl) ?_
                        intro K hK
                        have q0 := blk (i := 0) hF.at_ rfl
                        have f0 := blkf 0 hF.at_
                        have q1 := blk (i := 1) hF.at_ rfl
                        have f1 := blkf 1 hF.at_
                        go_simp
                        refine hK.out _ _ (fun _ => trivial) ?_
                        clear hK K q0 f0 q1 f1
                        replace HB : Bs w w3.heap.size ta tn tc L0 (((V3.setCell ⟨gT, 0, none⟩ (.slice tb um uc)).setCell ⟨gF, 0, none⟩ (.int .i64 code)).setCell ⟨gF, 1, none⟩ (.int .i64 pl1)) := (HB.set hF.at_ (by decide) (by decide) hF.hi.1 hF.hi.2).set (hF.put (i := 0) (u := .int .i64 code) (cs' := #[.int .i64 code, .int .i64 0]) rfl).at_ (by decide) (by decide) hF.hi.1 hF.hi.2
                        replace hI : Tr (((V3.setCell ⟨gT, 0, none⟩ (.slice tb um uc)).setCell ⟨gF, 0, none⟩ (.int .i64 code)).setCell ⟨gF, 1, none⟩ (.int .i64 pl1)) L1 tb um := (hI.set hF.at_ (by decide) (by decide)).set (hF.put (i := 0) (u := .int .i64 code) (cs' := #[.int .i64 code, .int .i64 0]) rfl).at_ (by decide) (by decide)
                        replace hT : Vr w w3.heap.size (((V3.setCell ⟨gT, 0, none⟩ (.slice tb um uc)).setCell ⟨gF, 0, none⟩ (.int .i64 code)).setCell ⟨gF, 1, none⟩ (.int .i64 pl1)) gT #[.slice tb um uc] 24 := (hT.other hF (by decide)).other (hF.put (i := 0) (u := .int .i64 code) (cs' := #[.int .i64 code, .int .i64 0]) rfl) (by decide)
                        replace hF : Vr w w3.heap.size (((V3.setCell ⟨gT, 0, none⟩ (.slice tb um uc)).setCell ⟨gF, 0, none⟩ (.int .i64 code)).setCell ⟨gF, 1, none⟩ (.int .i64 pl1)) gF #[.int .i64 code, .int .i64 pl1] 32 := (hF.put (i := 0) (u := .int .i64 code) (cs' := #[.int .i64 code, .int .i64 0]) rfl).put rfl
                        refine wpAnyX_done (by kernel_rfl) ?_ _
                        go_wp2_with fail
                        go_meet
                        exact ⟨gT, gF, tb, um, uc, rfl, rfl, hum, ⟨HB, hT.at_, hF.at_, hI⟩⟩
                      · intro K hK
                        refine alloc32_step rfl rfl rfl ?_
                        intro V6 gF hV hG
                        refine hK.out _ _ (fun _ => trivial) ?_
                        clear hK K
                        have lo := low_alloc V1 (.cells #[.int .i64 0, .int .i64 0] 32)
                        rw [← hV] at lo
                        replace hI := hI.below lo
                        have hF : Vr w w3.heap.size V6 gF #[.int .i64 0, .int .i64 0] 32 := by rw [hV, hG]; exact Vr.new HB #[.int .i64 0, .int .i64 0] 32
                        replace HB := HB.below lo
                        clear lo hV hG
                        simp only [Act.put]
                        refine wpAnyX_one (i := 22) rfl (by kernel_rfl) ?_
                        intro K hK
                        refine alloc24_step rfl rfl rfl ?_
                        intro V7 gT hV hG
                        refine hK.out _ _ (fun _ => trivial) ?_
                        clear hK K
                        have lo := low_alloc V6 (.cells #[.slice none 0 0] 24)
                        rw [← hV] at lo
                        replace hF := hF.below lo
                        replace hI := hI.below lo
                        have hT : Vr w w3.heap.size V7 gT #[.slice none 0 0] 24 := by rw [hV, hG]; exact Vr.new HB #[.slice none 0 0] 24
                        replace HB := HB.below lo
                        clear lo hV hG
                        simp only [Act.put]
                        refine wpAnyX_one (i := 24) rfl (by kernel_rfl) ?_
                        intro K hK
                        have q0 := blk (i := 0) hT.at_ rfl
                        have f0 := blkf 0 hT.at_
                        go_simp
                        refine hK.out _ _ (fun _ => trivial) ?_
                        clear hK K q0 f0
                        replace HB : Bs w w3.heap.size ta tn tc L0 (V7.setCell ⟨gT, 0, none⟩ (.slice tb um uc)) := HB.set hT.at_ (by decide) (by decide) hT.hi.1 hT.hi.2
                        replace hI : Tr (V7.setCell ⟨gT, 0, none⟩ (.slice tb um uc)) L1 tb um := hI.set hT.at_ (by decide) (by decide)
                        replace hF : Vr w w3.heap.size (V7.setCell ⟨gT, 0, none⟩ (.slice tb um uc)) gF #[.int .i64 0, .int .i64 0] 32 := hF.other hT (by decide)
                        replace hT : Vr w w3.heap.size (V7.setCell ⟨gT, 0, none⟩ (.slice tb um uc)) gT #[.slice tb um uc] 24 := hT.put rfl
                        refine wpAnyX_one (i := 25) rfl (by kernel_rfl) ?_
                        intro K hK
                        have q0 := blk (i := 0) hF.at_ rfl
                        have f0 := blkf 0 hF.at_
                        have q1 := blk (i := 1) hF.at_ rfl
                        have f1 := blkf 1 hF.at_
                        go_simp
                        refine hK.out _ _ (fun _ => trivial) ?_
                        clear hK K q0 f0 q1 f1
                        replace HB : Bs w w3.heap.size ta tn tc L0 (((V7.setCell ⟨gT, 0, none⟩ (.slice tb um uc)).setCell ⟨gF, 0, none⟩ (.int .i64 code)).setCell ⟨gF, 1, none⟩ (.int .i64 pl1)) := (HB.set hF.at_ (by decide) (by decide) hF.hi.1 hF.hi.2).set (hF.put (i := 0) (u := .int .i64 code) (cs' := #[.int .i64 code, .int .i64 0]) rfl).at_ (by decide) (by decide) hF.hi.1 hF.hi.2
                        replace hI : Tr (((V7.setCell ⟨gT, 0, none⟩ (.slice tb um uc)).setCell ⟨gF, 0, none⟩ (.int .i64 code)).setCell ⟨gF, 1, none⟩ (.int .i64 pl1)) L1 tb um := (hI.set hF.at_ (by decide) (by decide)).set (hF.put (i := 0) (u := .int .i64 code) (cs' := #[.int .i64 code, .int .i64 0]) rfl).at_ (by decide) (by decide)
                        replace hT : Vr w w3.heap.size (((V7.setCell ⟨gT, 0, none⟩ (.slice tb um uc)).setCell ⟨gF, 0, none⟩ (.int .i64 code)).setCell ⟨gF, 1, none⟩ (.int .i64 pl1)) gT #[.slice tb um uc] 24 := (hT.other hF (by decide)).other (hF.put (i := 0) (u := .int .i64 code) (cs' := #[.int .i64 code, .int .i64 0]) rfl) (by decide)
                        replace hF : Vr w w3.heap.size (((V7.setCell ⟨gT, 0, none⟩ (.slice tb um uc)).setCell ⟨gF, 0, none⟩ (.int .i64 code)).setCell ⟨gF, 1, none⟩ (.int .i64 pl1)) gF #[.int .i64 code, .int .i64 pl1] 32 := (hF.put (i := 0) (u := .int .i64 code) (cs' := #[.int .i64 code, .int .i64 0]) rfl).put rfl
                        refine wpAnyX_done (by kernel_rfl) ?_ _
                        go_wp2_with fail
                        go_meet
                        exact ⟨gT, gF, tb, um, uc, rfl, rfl, hum, ⟨HB, hT.at_, hF.at_, hI⟩⟩
                    · intro K hK
                      refine alloc24_step rfl rfl rfl ?_
                      intro V10 gT hV hG
                      refine hK.out _ _ (fun _ => trivial) ?_
                      clear hK K
                      have lo := low_alloc w5.drew (.cells #[.slice none 0 0] 24)
                      rw [← hV] at lo
                      have hT : Vr w w3.heap.size V10 gT #[.slice none 0 0] 24 := by rw [hV, hG]; exact Vr.new HB #[.slice none 0 0] 24
                      replace HB := HB.below lo
                      clear lo hV hG
                      simp only [Act.put]
                      refine wpAnyX_two (i := 18) (j := 23) (by kernel_rfl) rfl rfl ?_ ?_
                      · intro K hK
                        go_simp
                        refine (HP1.out _).mono ?_
                        rintro e' V11 ⟨tb, um, uc, rfl, hum, hI6, hb6⟩
                        refine hK.out _ _ (fun _ => trivial) ?_
                        clear hK K
                        replace hT := hT.below hb6
                        have hI : Tr V11 L1 tb um := ⟨_, hI6⟩
                        replace HB := HB.below hb6
                        clear hb6 hI6
                        refine wpAnyX_take0 (i := 19) (v := .tuple #[.agg #[.slice tb um uc], .agg #[.int .i64 code, .int .i64 pl1]]) rfl (by kernel_rfl) (by decide) (by kernel_rfl) (by kernel_rfl) (fun _ _ _ h => h) trivial (Or.inl ⟨by rfl, by (intro W hW; go_simp)⟩) ?_
                        simp only [Act.put]
                        refine wpAnyX_take0 (i := 20) (v := .agg #[.slice tb um uc]) rfl (by kernel_rfl) (by decide) (by kernel_rfl) (by kernel_rfl) (fun _ _ _ h => h) trivial (Or.inl ⟨by rfl, by (intro W hW; go_simp)⟩) ?_
                        simp only [Act.put]
                        refine wpAnyX_take0 (i := 21) (v := .agg #[.int .i64 code, .int .i64 pl1]) rfl (by kernel_rfl) (by decide) (by kernel_rfl) (by kernel_rfl) (fun _ _ _ h => h) trivial (Or.inl ⟨by rfl, by (intro W hW; go_simp)⟩) ?_
                        simp only [Act.put]
                        refine wpAnyX_one (i := 23) rfl (by kernel_rfl) ?_
                        intro K hK
                        refine alloc32_step rfl rfl rfl ?_
                        intro V12 gF hV hG
                        refine hK.out _ _ (fun _ => trivial) ?_
                        clear hK K
                        have lo := low_alloc V11 (.cells #[.int .i64 0, .int .i64 0] 32)
                        rw [← hV] at lo
                        replace hT := hT.below lo
                        replace hI := hI.below lo
                        have hF : Vr w w3.heap.size V12 gF #[.int .i64 0, .int .i64 0] 32 := by rw [hV, hG]; exact Vr.new HB #[.int .i64 0, .int .i64 0] 32
                        replace HB := HB.below lo
                        clear lo hV hG
                        simp only [Act.put]
                        refine wpAnyX_one (i := 24) rfl (by kernel_rfl) ?_
                        intro K hK
                        have q0 := blk (i := 0) hT.at_ rfl
                        have f0 := blkf 0 hT.at_
                        go_simp
                        refine hK.out _ _ (fun _ => trivial) ?_
                        clear hK K q0 f0
                        replace HB : Bs w w3.heap.size ta tn tc L0 (V12.setCell ⟨gT, 0, none⟩ (.slice tb um uc)) := HB.set hT.at_ (by decide) (by decide) hT.hi.1 hT.hi.2
                        replace hI : Tr (V12.setCell ⟨gT, 0, none⟩ (.slice tb um uc)) L1 tb um := hI.set hT.at_ (by decide) (by decide)
                        replace hF : Vr w w3.heap.size (V12.setCell ⟨gT, 0, none⟩ (.slice tb um uc)) gF #[.int .i64 0, .int .i64 0] 32 := hF.other hT (by decide)
                        replace hT : Vr w w3.heap.size (V12.setCell ⟨gT, 0, none⟩ (.slice tb um uc)) gT #[.slice tb um uc] 24 := hT.put rfl
                        refine wpAnyX_one (i := 25) rfl (by kernel_rfl) ?_
                        intro K hK
                        have q0 := blk (i := 0) hF.at_ rfl
                        have f0 := blkf 0 hF.at_
                        have q1 := blk (i := 1) hF.at_ rfl
                        have f1 := blkf 1 hF.at_
                        go_simp
                        refine hK.out _ _ (fun _ => trivial) ?_
                        clear hK K q0 f0 q1 f1
                        replace HB : Bs w w3.heap.size ta tn tc L0 (((V12.setCell ⟨gT, 0, none⟩ (.slice tb um uc)).setCell ⟨gF, 0, none⟩ (.int .i64 code)).setCell ⟨gF, 1, none⟩ (.int .i64 pl1)) := (HB.set hF.at_ (by decide) (by decide) hF.hi.1 hF.hi.2).set (hF.put (i := 0) (u := .int .i64 code) (cs' := #[.int .i64 code, .int .i64 0]) rfl).at_ (by decide) (by decide) hF.hi.1 hF.hi.2
                        replace hI : Tr (((V12.setCell ⟨gT, 0, none⟩ (.slice tb um uc)).setCell ⟨gF, 0, none⟩ (.int .i64 code)).setCell ⟨gF, 1, none⟩ (.int .i64 pl1)) L1 tb um := (hI.set hF.at_ (by decide) (by decide)).set (hF.put (i := 0) (u := .int .i64 code) (cs' := #[.int .i64 code, .int .i64 0]) rfl).at_ (by decide) (by decide)
                        replace hT : Vr w w3.heap.size (((V12.setCell ⟨gT, 0, none⟩ (.slice tb um uc)).setCell ⟨gF, 0, none⟩ (.int .i64 code)).setCell ⟨gF, 1, none⟩ (.int .i64 pl1)) gT #[.slice tb um uc] 24 := (hT.other hF (by decide)).other (hF.put (i := 0) (u := .int .i64 code) (cs' := #[.int .i64 code, .int .i64 0]) rfl) (by decide)
                        replace hF : Vr w w3.heap.size (((V12.setCell ⟨gT, 0, none⟩ (.slice tb um uc)).setCell ⟨gF, 0, none⟩ (.int .i64 code)).setCell ⟨gF, 1, none⟩ (.int .i64 pl1)) gF #[.int .i64 code, .int .i64 pl1] 32 := (hF.put (i := 0) (u := .int .i64 code) (cs' := #[.int .i64 code, .int .i64 0]) rfl).put rfl
                        refine wpAnyX_done (by kernel_rfl) ?_ _
                        go_wp2_with fail
                        go_meet
                        exact ⟨gT, gF, tb, um, uc, rfl, rfl, hum, ⟨HB, hT.at_, hF.at_, hI⟩⟩
                      · intro K hK
                        refine alloc32_step rfl rfl rfl ?_
                        intro V15 gF hV hG
                        refine hK.out _ _ (fun _ => trivial) ?_
                        clear hK K
                        have lo := low_alloc V10 (.cells #[.int .i64 0, .int .i64 0] 32)
                        rw [← hV] at lo
                        replace hT := hT.below lo
                        have hF : Vr w w3.heap.size V15 gF #[.int .i64 0, .int .i64 0] 32 := by rw [hV, hG]; exact Vr.new HB #[.int .i64 0, .int .i64 0] 32
                        replace HB := HB.below lo
                        clear lo hV hG
                        simp only [Act.put]
                        refine wpAnyX_one (i := 18) rfl (by kernel_rfl) ?_
                        intro K hK
                        go_simp
                        refine (HP1.out _).mono ?_
                        rintro e' V16 ⟨tb, um, uc, rfl, hum, hI6, hb6⟩
                        refine hK.out _ _ (fun _ => trivial) ?_
                        clear hK K
                        replace hT := hT.below hb6
                        replace hF := hF.below hb6
                        have hI : Tr V16 L1 tb um := ⟨_, hI6⟩
                        replace HB := HB.below hb6
                        clear hb6 hI6
                        refine wpAnyX_take0 (i := 19) (v := .tuple #[.agg #[.slice tb um uc], .agg #[.int .i64 code, .int .i64 pl1]]) rfl (by kernel_rfl) (by decide) (by kernel_rfl) (by kernel_rfl) (fun _ _ _ h => h) trivial (Or.inl ⟨by rfl, by (intro W hW; go_simp)⟩) ?_
                        simp only [Act.put]
                        refine wpAnyX_take0 (i := 20) (v := .agg #[.slice tb um uc]) rfl (by kernel_rfl) (by decide) (by kernel_rfl) (by kernel_rfl) (fun _ _ _ h => h) trivial (Or.inl ⟨by rfl, by (intro W hW; go_simp)⟩) ?_
                        simp only [Act.put]
                        refine wpAnyX_take0 (i := 21) (v := .agg #[.int .i64 code, .int .i64 pl1]) rfl (by kernel_rfl) (by decide) (by kernel_rfl) (by kernel_rfl) (fun _ _ _ h => h) trivial (Or.inl ⟨by rfl, by (intro W hW; go_simp)⟩) ?_
                        simp only [Act.put]
                        refine wpAnyX_one (i := 24) rfl (by kernel_rfl) ?_
                        intro K hK
                        have q0 := blk (i := 0) hT.at_ rfl
                        have f0 := blkf 0 hT.at_
                        go_simp
                        refine hK.out _ _ (fun _ => trivial) ?_
                        clear hK K q0 f0
                        replace HB : Bs w w3.heap.size ta tn tc L0 (V16.setCell ⟨gT, 0, none⟩ (.slice tb um uc)) := HB.set hT.at_ (by decide) (by decide) hT.hi.1 hT.hi.2
                        replace hI : Tr (V16.setCell ⟨gT, 0, none⟩ (.slice tb um uc)) L1 tb um := hI.set hT.at_ (by decide) (by decide)
                        replace hF : Vr w w3.heap.size (V16.setCell ⟨gT, 0, none⟩ (.slice tb um uc)) gF #[.int .i64 0, .int .i64 0] 32 := hF.other hT (by decide)
                        replace hT : Vr w w3.heap.size (V16.setCell ⟨gT, 0, none⟩ (.slice tb um uc)) gT #[.slice tb um uc] 24 := hT.put rfl
                        refine wpAnyX_one (i := 25) rfl (by kernel_rfl) ?_
                        intro K hK
                        have q0 := blk (i := 0) hF.at_ rfl
                        have f0 := blkf 0 hF.at_
                        have q1 := blk (i := 1) hF.at_ rfl
                        have f1 := blkf 1 hF.at_
                        go_simp
                        refine hK.out _ _ (fun _ => trivial) ?_
                        clear hK K q0 f0 q1 f1
                        replace HB : Bs w w3.heap.size ta tn tc L0 (((V16.setCell ⟨gT, 0, none⟩ (.slice tb um uc)).setCell ⟨gF, 0, none⟩ (.int .i64 code)).setCell ⟨gF, 1, none⟩ (.int .i64 pl1)) := (HB.set hF.at_ (by decide) (by decide) hF.hi.1 hF.hi.2).set (hF.put (i := 0) (u := .int .i64 code) (cs' := #[.int .i64 code, .int .i64 0]) rfl).at_ (by decide) (by decide) hF.hi.1 hF.hi.2
                        replace hI : Tr (((V16.setCell ⟨gT, 0, none⟩ (.slice tb um uc)).setCell ⟨gF, 0, none⟩ (.int .i64 code)).setCell ⟨gF, 1, none⟩ (.int .i64 pl1)) L1 tb um := (hI.set hF.at_ (by decide) (by decide)).set (hF.put (i := 0) (u := .int .i64 code) (cs' := #[.int .i64 code, .int .i64 0]) rfl).at_ (by decide) (by decide)
                        replace hT : Vr w w3.heap.size (((V16.setCell ⟨gT, 0, none⟩ (.slice tb um uc)).setCell ⟨gF, 0, none⟩ (.int .i64 code)).setCell ⟨gF, 1, none⟩ (.int .i64 pl1)) gT #[.slice tb um uc] 24 := (hT.other hF (by decide)).other (hF.put (i := 0) (u := .int .i64 code) (cs' := #[.int .i64 code, .int .i64 0]) rfl) (by decide)
                        replace hF : Vr w w3.heap.size (((V16.setCell ⟨gT, 0, none⟩ (.slice tb um uc)).setCell ⟨gF, 0, none⟩ (.int .i64 code)).setCell ⟨gF, 1, none⟩ (.int .i64 pl1)) gF #[.int .i64 code, .int .i64 pl1] 32 := (hF.put (i := 0) (u := .int .i64 code) (cs' := #[.int .i64 code, .int .i64 0]) rfl).put rfl
                        refine wpAnyX_done (by kernel_rfl) ?_ _
                        go_wp2_with fail
                        go_meet
                        exact ⟨gT, gF, tb, um, uc, rfl, rfl, hum, ⟨HB, hT.at_, hF.at_, hI⟩⟩
                    · intro K hK
                      refine alloc32_step rfl rfl rfl ?_
                      intro V19 gF hV hG
                      refine hK.out _ _ (fun _ => trivial) ?_
                      clear hK K
                      have lo := low_alloc w5.drew (.cells #[.int .i64 0, .int .i64 0] 32)
                      rw [← hV] at lo
                      have hF : Vr w w3.heap.size V19 gF #[.int .i64 0, .int .i64 0] 32 := by rw [hV, hG]; exact Vr.new HB #[.int .i64 0, .int .i64 0] 32
                      replace HB := HB.below lo
                      clear lo hV hG
                      simp only [Act.put]
                      refine wpAnyX_two (i := 18) (j := 22) (by kernel_rfl) rfl rfl ?_ ?_
                      · intro K hK
                        go_simp
                        refine (HP1.out _).mono ?_
                        rintro e' V20 ⟨tb, um, uc, rfl, hum, hI6, hb6⟩
                        refine hK.out _ _ (fun _ => trivial) ?_
                        clear hK K
                        replace hF := hF.below hb6
                        have hI : Tr V20 L1 tb um := ⟨_, hI6⟩
                        replace HB := HB.below hb6
                        clear hb6 hI6
                        refine wpAnyX_take0 (i := 19) (v := .tuple #[.agg #[.slice tb um uc], .agg #[.int .i64 code, .int .i64 pl1]]) rfl (by kernel_rfl) (by decide) (by kernel_rfl) (by kernel_rfl) (fun _ _ _ h => h) trivial (Or.inl ⟨by rfl, by (intro W hW; go_simp)⟩) ?_
                        simp only [Act.put]
                        refine wpAnyX_take0 (i := 20) (v := .agg #[.slice tb um uc]) rfl (by kernel_rfl) (by decide) (by kernel_rfl) (by kernel_rfl) (fun _ _ _ h => h) trivial (Or.inl ⟨by rfl, by (intro W hW; go_simp)⟩) ?_
                        simp only [Act.put]
                        refine wpAnyX_take0 (i := 21) (v := .agg #[.int .i64 code, .int .i64 pl1]) rfl (by kernel_rfl) (by decide) (by kernel_rfl) (by kernel_rfl) (fun _ _ _ h => h) trivial (Or.inl ⟨by rfl, by (intro W hW; go_simp)⟩) ?_
                        simp only [Act.put]
                        refine wpAnyX_one (i := 22) rfl (by kernel_rfl) ?_
                        intro K hK
                        refine alloc24_step rfl rfl rfl ?_
                        intro V21 gT hV hG
                        refine hK.out _ _ (fun _ => trivial) ?_
                        clear hK K
                        have lo := low_alloc V20 (.cells #[.slice none 0 0] 24)
                        rw [← hV] at lo
                        replace hF := hF.below lo
                        replace hI := hI.below lo
                        have hT : Vr w w3.heap.size V21 gT #[.slice none 0 0] 24 := by rw [hV, hG]; exact Vr.new HB #[.slice none 0 0] 24
                        replace HB := HB.below lo
                        clear lo hV hG
                        simp only [Act.put]
                        refine wpAnyX_one (i := 24) rfl (by kernel_rfl) ?_
                        intro K hK
                        have q0 := blk (i := 0) hT.at_ rfl
                        have f0 := blkf 0 hT.at_
                        go_simp
                        refine hK.out _ _ (fun _ => trivial) ?_
                        clear hK K q0 f0
                        replace HB : Bs w w3.heap.size ta tn tc L0 (V21.setCell ⟨gT, 0, none⟩ (.slice tb um uc)) := HB.set hT.at_ (by decide) (by decide) hT.hi.1 hT.hi.2
                        replace hI : Tr (V21.setCell ⟨gT, 0, none⟩ (.slice tb um uc)) L1 tb um := hI.set hT.at_ (by decide) (by decide)
                        replace hF : Vr w w3.heap.size (V21.setCell ⟨gT, 0, none⟩ (.slice tb um uc)) gF #[.int .i64 0, .int .i64 0] 32 := hF.other hT (by decide)
                        replace hT : Vr w w3.heap.size (V21.setCell ⟨gT, 0, none⟩ (.slice tb um uc)) gT #[.slice tb um uc] 24 := hT.put rfl
                        refine wpAnyX_one (i := 25) rfl (by kernel_rfl) ?_
                        intro K hK
                        have q0 := blk (i := 0) hF.at_ rfl
                        have f0 := blkf 0 hF.at_
                        have q1 := blk (i := 1) hF.at_ rfl
                        have f1 := blkf 1 hF.at_
                        go_simp
                        refine hK.out _ _ (fun _ => trivial) ?_
                        clear hK K q0 f0 q1 f1
                        replace HB : Bs w w3.heap.size ta tn tc L0 (((V21.setCell ⟨gT, 0, none⟩ (.slice tb um uc)).setCell ⟨gF, 0, none⟩ (.int .i64 code)).setCell ⟨gF, 1, none⟩ (.int .i64 pl1)) := (HB.set hF.at_ (by decide) (by decide) hF.hi.1 hF.hi.2).set (hF.put (i := 0) (u := .int .i64 code) (cs' := #[.int .i64 code, .int .i64 0]) rfl).at_ (by decide) (by decide) hF.hi.1 hF.hi.2
                        replace hI : Tr (((V21.setCell ⟨gT, 0, none⟩ (.slice tb um uc)).setCell ⟨gF, 0, none⟩ (.int .i64 code)).setCell ⟨gF, 1, none⟩ (.int .i64 pl1)) L1 tb um := (hI.set hF.at_ (by decide) (by decide)).set (hF.put (i := 0) (u := .int .i64 code) (cs' := #[.int .i64 code, .int .i64 0]) rfl).at_ (by decide) (by decide)
                        replace hT : Vr w w3.heap.size (((V21.setCell ⟨gT, 0, none⟩ (.slice tb um uc)).setCell ⟨gF, 0, none⟩ (.int .i64 code)).setCell ⟨gF, 1, none⟩ (.int .i64 pl1)) gT #[.slice tb um uc] 24 := (hT.other hF (by decide)).other (hF.put (i := 0) (u := .int .i64 code) (cs' := #[.int .i64 code, .int .i64 0]) rfl) (by decide)
                        replace hF : Vr w w3.heap.size (((V21.setCell ⟨gT, 0, none⟩ (.slice tb um uc)).setCell ⟨gF, 0, none⟩ (.int .i64 code)).setCell ⟨gF, 1, none⟩ (.int .i64 pl1)) gF #[.int .i64 code, .int .i64 pl1] 32 := (hF.put (i := 0) (u := .int .i64 code) (cs' := #[.int .i64 code, .int .i64 0]) rfl).put rfl
                        refine wpAnyX_done (by kernel_rfl) ?_ _
                        go_wp2_with fail
                        go_meet
                        exact ⟨gT, gF, tb, um, uc, rfl, rfl, hum, ⟨HB, hT.at_, hF.at_, hI⟩⟩
                      · intro K hK
                        refine alloc24_step rfl rfl rfl ?_
                        intro V24 gT hV hG
                        refine hK.out _ _ (fun _ => trivial) ?_
                        clear hK K
                        have lo := low_alloc V19 (.cells #[.slice none 0 0] 24)
                        rw [← hV] at lo
                        replace hF := hF.below lo
                        have hT : Vr w w3.heap.size V24 gT #[.slice none 0 0] 24 := by rw [hV, hG]; exact Vr.new HB #[.slice none 0 0] 24
                        replace HB := HB.below lo
                        clear lo hV hG
                        simp only [Act.put]
                        refine wpAnyX_one (i := 18) rfl (by kernel_rfl) ?_
                        intro K hK
                        go_simp
                        refine (HP1.out _).mono ?_
                        rintro e' V25 ⟨tb, um, uc, rfl, hum, hI6, hb6⟩
                        refine hK.out _ _ (fun _ => trivial) ?_
                        clear hK K
                        replace hT := hT.below hb6
                        replace hF := hF.below hb6
                        have hI : Tr V25 L1 tb um := ⟨_, hI6⟩
                        replace HB := HB.below hb6
                        clear hb6 hI6
                        refine wpAnyX_take0 (i := 19) (v := .tuple #[.agg #[.slice tb um uc], .agg #[.int .i64 code, .int .i64 pl1]]) rfl (by kernel_rfl) (by decide) (by kernel_rfl) (by kernel_rfl) (fun _ _ _ h => h) trivial (Or.inl ⟨by rfl, by (intro W hW; go_simp)⟩) ?_
                        simp only [Act.put]
                        refine wpAnyX_take0 (i := 20) (v := .agg #[.slice tb um uc]) rfl (by kernel_rfl) (by decide) (by kernel_rfl) (by kernel_rfl) (fun _ _ _ h => h) trivial (Or.inl ⟨by rfl, by (intro W hW; go_simp)⟩) ?_
                        simp only [Act.put]
                        refine wpAnyX_take0 (i := 21) (v := .agg #[.int .i64 code, .int .i64 pl1]) rfl (by kernel_rfl) (by decide) (by kernel_rfl) (by kernel_rfl) (fun _ _ _ h => h) trivial (Or.inl ⟨by rfl, by (intro W hW; go_simp)⟩) ?_
                        simp only [Act.put]
                        refine wpAnyX_one (i := 24) rfl (by kernel_rfl) ?_
                        intro K hK
                        have q0 := blk (i := 0) hT.at_ rfl
                        have f0 := blkf 0 hT.at_
                        go_simp
                        refine hK.out _ _ (fun _ => trivial) ?_
                        clear hK K q0 f0
                        replace HB : Bs w w3.heap.size ta tn tc L0 (V25.setCell ⟨gT, 0, none⟩ (.slice tb um uc)) := HB.set hT.at_ (by decide) (by decide) hT.hi.1 hT.hi.2
                        replace hI : Tr (V25.setCell ⟨gT, 0, none⟩ (.slice tb um uc)) L1 tb um := hI.set hT.at_ (by decide) (by decide)
                        replace hF : Vr w w3.heap.size (V25.setCell ⟨gT, 0, none⟩ (.slice tb um uc)) gF #[.int .i64 0, .int .i64 0] 32 := hF.other hT (by decide)
                        replace hT : Vr w w3.heap.size (V25.setCell ⟨gT, 0, none⟩ (.slice tb um uc)) gT #[.slice tb um uc] 24 := hT.put rfl
                        refine wpAnyX_one (i := 25) rfl (by kernel_rfl) ?_
                        intro K hK
                        have q0 := blk (i := 0) hF.at_ rfl
                        have f0 := blkf 0 hF.at_
                        have q1 := blk (i := 1) hF.at_ rfl
                        have f1 := blkf 1 hF.at_
                        go_simp
                        refine hK.out _ _ (fun _ => trivial) ?_
                        clear hK K q0 f0 q1 f1
                        replace HB : Bs w w3.heap.size ta tn tc L0 (((V25.setCell ⟨gT, 0, none⟩ (.slice tb um uc)).setCell ⟨gF, 0, none⟩ (.int .i64 code)).setCell ⟨gF, 1, none⟩ (.int .i64 pl1)) := (HB.set hF.at_ (by decide) (by decide) hF.hi.1 hF.hi.2).set (hF.put (i := 0) (u := .int .i64 code) (cs' := #[.int .i64 code, .int .i64 0]) rfl).at_ (by decide) (by decide) hF.hi.1 hF.hi.2
                        replace hI : Tr (((V25.setCell ⟨gT, 0, none⟩ (.slice tb um uc)).setCell ⟨gF, 0, none⟩ (.int .i64 code)).setCell ⟨gF, 1, none⟩ (.int .i64 pl1)) L1 tb um := (hI.set hF.at_ (by decide) (by decide)).set (hF.put (i := 0) (u := .int .i64 code) (cs' := #[.int .i64 code, .int .i64 0]) rfl).at_ (by decide) (by decide)
                        replace hT : Vr w w3.heap.size (((V25.setCell ⟨gT, 0, none⟩ (.slice tb um uc)).setCell ⟨gF, 0, none⟩ (.int .i64 code)).setCell ⟨gF, 1, none⟩ (.int .i64 pl1)) gT #[.slice tb um uc] 24 := (hT.other hF (by decide)).other (hF.put (i := 0) (u := .int .i64 code) (cs' := #[.int .i64 code, .int .i64 0]) rfl) (by decide)
                        replace hF : Vr w w3.heap.size (((V25.setCell ⟨gT, 0, none⟩ (.slice tb um uc)).setCell ⟨gF, 0, none⟩ (.int .i64 code)).setCell ⟨gF, 1, none⟩ (.int .i64 pl1)) gF #[.int .i64 code, .int .i64 pl1] 32 := (hF.put (i := 0) (u := .int .i64 code) (cs' := #[.int .i64 code, .int .i64 0]) rfl).put rfl
                        refine wpAnyX_done (by kernel_rfl) ?_ _
                        go_wp2_with fail
                        go_meet
                        exact ⟨gT, gF, tb, um, uc, rfl, rfl, hum, ⟨HB, hT.at_, hF.at_, hI⟩⟩
                  case rest =>
                    obtain ⟨gT, gF, tb, um, uc, rfl, rfl, hum, HR⟩ := hcut
                    clear HB sl1 sl2 sl3 e1 e2 e3 e4 e5 e6 wi wz HP1
                    have HSm : Hid (Calls Tryd.prog 13 #[.agg #[.slice tb um uc], .agg #[.slice ta tn tc]] wc fun e w' => e = .returned (.bool (sameI L1 L0)) ∧ Below wc.heap.size wc w') := by
                      obtain ⟨X, hX⟩ := HR.out.2.2.2
                      obtain ⟨Y, hY⟩ := HR.out.1.2.2
                      exact same_calls L1 L0 tb ta um uc tn tc wc true true X Y hX hY (by unfold maxLen; omega) (by unfold maxLen; omega)
                    have t0 := blk (i := 0) HR.out.2.1 rfl
                    have t1 := blk (i := 0) HR.out.1.2.1 rfl
                    have hcz : code = 0 → sameI L1 L0 = false := fun h => by
                      have := HZ.out
                      simp only [h, true_and] at this
                      simpa using this
                    generalize sameI L1 L0 = sm at *
                    clear HZ
                    go_wp2_with fail
                    refine HSm.out.mono ?_
                    rintro e w7 ⟨rfl, hb7⟩
                    have HB7 : Hid (Bs w w3.heap.size ta tn tc L0 w7) := HR.out.1.below hb7
                    have t2 := blk (i := 0) (show w7.heap[gF]? = _ by rw [hb7.block _ (lt_block HR.out.2.2.1)]; exact HR.out.2.2.1) rfl
                    clear hb7 HR HSm t0 t1
                    by_cases hc0 : code = 0
                    · have hcb : (code == 0) = true := by simpa using hc0
                      have hsm := hcz hc0
                      subst hsm
                      clear hcz hc0
                      go_wp2
                      go_roundg (gk - 1)
                      case measure => omega
                      case rel => exact ⟨i + 1, false, rfl, by go_num, by omega, HN.out, HB7.out⟩
                    · have hcb : (code == 0) = false := by simpa using hc0
                      clear hcz hc0
                      go_wp2
                      go_roundg (gk - 1)
                      case measure => omega
                      case rel => exact ⟨i + 1, false, rfl, by go_num, by omega, HN.out, HB7.out⟩
          · have e40' : (((s[i].toNat : Nat) : Int) != 40) = true := by rw [bne, e40, decide_eq_false h40]; rfl
            clear HQ HG e40 HNd HCl h40
            go_wp2
            go_roundg (gk - 1)
            case measure => omega
            case rel => exact ⟨i + 1, false, rfl, by go_num, by omega, HN.out, HB.out⟩
    · have hdk : decide ((i : Int) < (s.size : Int)) = false := by simp; omega
      have HBf : Hid (Below w.heap.size w wr) := HB.out.1
      clear HB HQ HNd HCl
      go_wp2
      go_ret
      exact ⟨rfl, HBf.out⟩

end Go.Proofs.YtpeldiibjhffiaaDoor
