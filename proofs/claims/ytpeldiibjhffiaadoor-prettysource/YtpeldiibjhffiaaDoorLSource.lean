/-
  PrettySource is proved for every input: of a source that is taken its one form is taken as the same, is its own form, and is what each of its items' forms make, one behind the other. Its conditions are the row's own: the tables that the standard library reads are as its text lays them.
-/
import Derived.Test.YtpeldiibjhffiaaDoorRows
import Derived.Test.YtpeldiibjhffiaaDoorCards
import Derived.Test.YtpeldiibjhffiaaDoorTie
import Derived.SevenTiedAt
import Derived.Test.YtpeldiibjhffiaaDoorOvr
import Derived.Test.YtpeldiibjhffiaaDoorG38
import Derived.Test.YtpeldiibjhffiaaDoorG27
import Derived.Test.YtpeldiibjhffiaaDoorG34
import Derived.Test.YtpeldiibjhffiaaDoorCat
namespace Go.Proofs.YtpeldiibjhffiaaDoor
open Go.RowKit Go.Deep

theorem print_one {L : List It} (hl : (treeB L).length ≤ 4000) {i : It} (hi : itRight i = true) (hm : (itB i).length ≤ (treeB L).length) : printB [i] = (itB i, 0) := by
  have e : treeB [i] = itB i := by simp [treeB]
  unfold printB
  rw [e, if_pos (by simp [treeRight, hi]), if_pos (by omega)]
theorem one_item {o : Bool} {S : Nat → Prop} {w : World} {it : It} {ka : Option Addr} {kc kk : Nat} (hok : ItOk it) (hkc : kc ≤ maxLen) (hF : FoAt o S w it.args ka kc) : ItsAt false (fun _ => True) (w.alloc (.cells #[.int .i64 it.kind, .string (bs it.name), .slice ka kc kk, .int .i64 it.pl] 37)) [it] (some ⟨w.heap.size, 0, none⟩) 1 := by
  have h1 : FoAt o (fun _ => True) w it.args ka kc := hF.base fun _ _ _ => trivial
  have h2 : FoAt false (fun _ => True) w it.args ka kc := by
    cases o with
    | false => exact h1
    | true => exact h1.loose
  refine ⟨w.heap.size, 0, ka, kc, kk, 0, rfl, rfl, trivial, (fun e => by cases e), hok, hkc, fun i u hi => ?_, h2.below (low_alloc _ _), rfl⟩
  rw [cell_of_row _ _ _ _ _ _ (heap_alloc_new w _)]
  have h5 : [Value.int .i64 it.kind, .string (bs it.name), .slice ka kc kk, .int .i64 it.pl][i]? = some u := hi
  rw [Nat.zero_add]
  have h6 : (#[Value.int .i64 it.kind, .string (bs it.name), .slice ka kc kk, .int .i64 it.pl] : Array Value)[i]? = some u := by simpa using h5
  exact h6
theorem keep_two {W W' : World} {g : Nat} {p q : Obj} (h : W.heap[g]? = some p ∧ W.heap[g + 1]? = some q) (hb : Below W.heap.size W W') : W'.heap[g]? = some p ∧ W'.heap[g + 1]? = some q :=
  ⟨by rw [hb.block _ (lt_block h.1)]; exact h.1, by rw [hb.block _ (lt_block h.2)]; exact h.2⟩
set_option maxRecDepth 20000 in
set_option maxHeartbeats 4000000 in
theorem source_bad (s : ByteArray) (w : World) (htab : TabOk w) (hc : (parseW s.data.toList).2.1 ≠ 0) :
    Calls Tryd.prog 5 #[.string s] w fun e w' => e = .returned (.bool true) ∧ Below w.heap.size w w' := by
  have HA : Hid (Calls Tryd.prog 10 #[] w fun e w' => e = .returned (.bool true) ∧ Below w.heap.size w w') := awake_calls w htab
  have HP : Hid (∀ W, Calls Tryd.prog 12 #[.string s] W fun e w' => TreePost (parseW s.data.toList) W e w') := fun W => parse_calls s W
  have hq : ((parseW s.data.toList).2.1 != 0) = true := by simpa using hc
  generalize parseW s.data.toList = P at *
  clear hc htab
  go_enter Tryd.func5, Tryd.ntmps5
  go_wp2_with fail
  refine HA.out.mono ?_
  rintro e w1 ⟨rfl, hb1⟩
  have HB1 : Hid (Below w.heap.size w w1) := hb1
  clear hb1 HA
  go_wp2_with fail
  refine (HP.out _).mono ?_
  rintro e w2 ⟨ta, tn, tc, rfl, htn, hI, hb2⟩
  generalize P.2.1 = code at *
  generalize P.2.2 = pl at *
  have hbw := HB1.out.trans (hb2.mono HB1.out.size)
  have HB2 : Hid (Below w.heap.size w ((w2.alloc (.cells #[.slice ta tn tc] 24)).alloc (.cells #[.int .i64 code, .int .i64 pl] 32))) := hbw.trans ((below_two w2 _ _).mono hbw.size)
  have f := blk (i := 0) (twoN_new w2 (.cells #[.slice ta tn tc] 24) (.cells #[.int .i64 code, .int .i64 pl] 32)) rfl
  clear hbw hb2 hI HB1 HP
  go_wp2
  go_ret
  exact ⟨rfl, HB2.out⟩
set_option maxRecDepth 20000 in
set_option maxHeartbeats 4000000 in
theorem source_long (s : ByteArray) (w : World) (htab : TabOk w) (hc : (parseW s.data.toList).2.1 = 0) (hp : printB (parseW s.data.toList).1 = ([], 2)) :
    Calls Tryd.prog 5 #[.string s] w fun e w' => e = .returned (.bool true) ∧ Below w.heap.size w w' := by
  have HA : Hid (Calls Tryd.prog 10 #[] w fun e w' => e = .returned (.bool true) ∧ Below w.heap.size w w') := awake_calls w htab
  have HP : Hid (∀ W, Calls Tryd.prog 12 #[.string s] W fun e w' => TreePost (parseW s.data.toList) W e w') := fun W => parse_calls s W
  have HPt : Hid (∀ W ta tn tc, Below w.heap.size w W → tn ≤ 4002 → (∃ X : Nat → Prop, ItsAt true X W (parseW s.data.toList).1 ta tn) → Calls Tryd.prog 8 #[.agg #[.slice ta tn tc]] W fun e w' => e = .returned (.tuple #[.string ⟨#[]⟩, .int .i64 2]) ∧ Below W.heap.size W w') := fun W ta tn tc hW ht ⟨X, hI⟩ => by
    have := text_bs (print_calls (parseW s.data.toList).1 ta tn tc W hI (by unfold maxLen; omega) (htab.below hW))
    rw [hp] at this
    exact this
  generalize parseW s.data.toList = P at *
  obtain ⟨L, code, pl⟩ := P
  simp only at hc
  subst hc
  clear hp htab
  go_enter Tryd.func5, Tryd.ntmps5
  go_wp2_with fail
  refine HA.out.mono ?_
  rintro e w1 ⟨rfl, hb1⟩
  have HB1 : Hid (Below w.heap.size w w1) := hb1
  clear hb1 HA
  go_wp2_with fail
  refine (HP.out _).mono ?_
  rintro e w2 ⟨ta, tn, tc, rfl, htn, hI, hb2⟩
  simp only at hI
  have hbw := HB1.out.trans (hb2.mono HB1.out.size)
  have hbt := below_two w2 (.cells #[.slice ta tn tc] 24) (.cells #[.int .i64 0, .int .i64 pl] 32)
  have hB2 : Below w.heap.size w ((w2.alloc (.cells #[.slice ta tn tc] 24)).alloc (.cells #[.int .i64 0, .int .i64 pl] 32)) := hbw.trans (hbt.mono hbw.size)
  have f := blk (i := 0) (twoN_new w2 (.cells #[.slice ta tn tc] 24) (.cells #[.int .i64 0, .int .i64 pl] 32)) rfl
  have HPr : Hid (Calls Tryd.prog 8 #[.agg #[.slice ta tn tc]] ((w2.alloc (.cells #[.slice ta tn tc] 24)).alloc (.cells #[.int .i64 0, .int .i64 pl] 32)) fun e w' => e = .returned (.tuple #[.string ⟨#[]⟩, .int .i64 2]) ∧ Below ((w2.alloc (.cells #[.slice ta tn tc] 24)).alloc (.cells #[.int .i64 0, .int .i64 pl] 32)).heap.size ((w2.alloc (.cells #[.slice ta tn tc] 24)).alloc (.cells #[.int .i64 0, .int .i64 pl] 32)) w') := HPt.out _ _ _ _ hB2 htn ⟨_, hI.below hbt⟩
  have HB2 : Hid (Below w.heap.size w ((w2.alloc (.cells #[.slice ta tn tc] 24)).alloc (.cells #[.int .i64 0, .int .i64 pl] 32))) := hB2
  clear hbw hb2 hI HB1 HP hbt hB2 HPt htn
  go_wp2_with fail
  refine HPr.out.mono ?_
  rintro e w3 ⟨rfl, hb3⟩
  have HB3 : Hid (Below w.heap.size w w3) := HB2.out.trans (hb3.mono HB2.out.size)
  clear hb3 HB2 HPr f
  go_wp2
  go_ret
  exact ⟨rfl, HB3.out⟩
set_option maxRecDepth 20000 in
set_option maxHeartbeats 4000000 in
theorem source_form (s : ByteArray) (w : World) (htab : TabOk w) (U : List UInt8) (hc : (parseW s.data.toList).2.1 = 0) (hp : printB (parseW s.data.toList).1 = (U, 0)) :
    Calls Tryd.prog 5 #[.string s] w fun e w' => e = .returned (.bool true) ∧ Below w.heap.size w w' := by
  obtain ⟨p1, p2, p3⟩ := printB_ok hp
  obtain ⟨q1, q2, q3⟩ := print_read hp
  have HA : Hid (Calls Tryd.prog 10 #[] w fun e w' => e = .returned (.bool true) ∧ Below w.heap.size w w') := awake_calls w htab
  have HP : Hid (∀ W, Calls Tryd.prog 12 #[.string s] W fun e w' => TreePost (parseW s.data.toList) W e w') := fun W => parse_calls s W
  have HPt : Hid (∀ W ta tn tc, Below w.heap.size w W → tn ≤ 4002 → (∃ X : Nat → Prop, ItsAt true X W (parseW s.data.toList).1 ta tn) → Calls Tryd.prog 8 #[.agg #[.slice ta tn tc]] W fun e w' => e = .returned (.tuple #[.string (bs U), .int .i64 0]) ∧ Below W.heap.size W w') := fun W ta tn tc hW ht ⟨X, hI⟩ => by
    have := text_bs (print_calls (parseW s.data.toList).1 ta tn tc W hI (by unfold maxLen; omega) (htab.below hW))
    rw [hp] at this
    exact this
  have HPu : Hid (∀ W, Calls Tryd.prog 12 #[.string (bs U)] W fun e w' => ∃ tb um uc pl2, e = .returned (.tuple #[.agg #[.slice tb um uc], .agg #[.int .i64 0, .int .i64 pl2]]) ∧ um ≤ 4002 ∧ ItsAt true (fun g => W.heap.size ≤ g) w' (parseW U).1 tb um ∧ Below W.heap.size W w') := fun W => by
    have := parse_calls (bs U) W
    rw [bs_data] at this
    refine this.mono ?_
    rintro e w' ⟨ta, tn, tc, rfl, htn, hI, hb⟩
    rw [q1]
    exact ⟨ta, tn, tc, _, rfl, htn, hI, hb⟩
  have HSm : Hid (∀ W ta tn tc tb um uc, tn ≤ 4002 → um ≤ 4002 → (∃ X : Nat → Prop, ItsAt true X W (parseW U).1 tb um) → (∃ X : Nat → Prop, ItsAt true X W (parseW s.data.toList).1 ta tn) → Calls Tryd.prog 13 #[.agg #[.slice tb um uc], .agg #[.slice ta tn tc]] W fun e w' => e = .returned (.bool true) ∧ Below W.heap.size W w') := fun W ta tn tc tb um uc ht hu ⟨X, hI⟩ ⟨Y, hJ⟩ => by
    have := same_calls (parseW U).1 (parseW s.data.toList).1 tb ta um uc tn tc W true true X Y hI hJ (by unfold maxLen; omega) (by unfold maxLen; omega)
    rw [q2] at this
    exact this
  have HR : Hid (∀ i ∈ (parseW s.data.toList).1, itRight i = true) := by
    unfold treeRight at p1
    simp only [Bool.and_eq_true, decide_eq_true_eq, List.all_eq_true] at p1
    exact p1.2
  have HL : Hid (treeB (parseW s.data.toList).1 = U ∧ U.length ≤ 4000) := ⟨p2.symm, p3⟩
  have HP1 : Hid (∀ (i : It) W ao, itRight i = true → (itB i).length ≤ U.length → ItsAt false (fun _ => True) W [i] ao 1 → TabOk W → Calls Tryd.prog 8 #[.agg #[.slice ao 1 1]] W fun e w' => e = .returned (.tuple #[.string (bs (itB i)), .int .i64 0]) ∧ Below W.heap.size W w') := fun i W ao hi hl hI ht => by
    have := text_bs (print_calls [i] ao 1 1 W hI (by decide) ht)
    rw [print_one (L := (parseW s.data.toList).1) (by rw [← p2]; exact p3) hi (by rw [← p2]; exact hl)] at this
    exact this
  have HTab : Hid (TabOk w) := htab
  generalize (parseW U).1 = L2 at *
  generalize parseW s.data.toList = P at *
  obtain ⟨L, code, pl⟩ := P
  simp only at hc
  subst hc
  clear hp htab p1 p2 p3 q1 q2 q3
  go_enter Tryd.func5, Tryd.ntmps5
  go_wp2_with fail
  refine HA.out.mono ?_
  rintro e w1 ⟨rfl, hb1⟩
  have HB1 : Hid (Below w.heap.size w w1) := hb1
  clear hb1 HA
  go_wp2_with fail
  refine (HP.out _).mono ?_
  rintro e w2 ⟨ta, tn, tc, rfl, htn, hI, hb2⟩
  simp only at hI
  have hbw := HB1.out.trans (hb2.mono HB1.out.size)
  have hbt := below_two w2 (.cells #[.slice ta tn tc] 24) (.cells #[.int .i64 0, .int .i64 pl] 32)
  have hB2 : Below w.heap.size w ((w2.alloc (.cells #[.slice ta tn tc] 24)).alloc (.cells #[.int .i64 0, .int .i64 pl] 32)) := hbw.trans (hbt.mono hbw.size)
  have f := blk (i := 0) (twoN_new w2 (.cells #[.slice ta tn tc] 24) (.cells #[.int .i64 0, .int .i64 pl] 32)) rfl
  have HPr : Hid (Calls Tryd.prog 8 #[.agg #[.slice ta tn tc]] ((w2.alloc (.cells #[.slice ta tn tc] 24)).alloc (.cells #[.int .i64 0, .int .i64 pl] 32)) fun e w' => e = .returned (.tuple #[.string (bs U), .int .i64 0]) ∧ Below ((w2.alloc (.cells #[.slice ta tn tc] 24)).alloc (.cells #[.int .i64 0, .int .i64 pl] 32)).heap.size ((w2.alloc (.cells #[.slice ta tn tc] 24)).alloc (.cells #[.int .i64 0, .int .i64 pl] 32)) w') := HPt.out _ _ _ _ hB2 htn ⟨_, hI.below hbt⟩
  have H2 : Hid (Below w.heap.size w ((w2.alloc (.cells #[.slice ta tn tc] 24)).alloc (.cells #[.int .i64 0, .int .i64 pl] 32)) ∧ ((w2.alloc (.cells #[.slice ta tn tc] 24)).alloc (.cells #[.int .i64 0, .int .i64 pl] 32)).heap[w2.heap.size]? = some (.cells #[.slice ta tn tc] 24 (0, 0)) ∧ ∃ X : Nat → Prop, ItsAt true X ((w2.alloc (.cells #[.slice ta tn tc] 24)).alloc (.cells #[.int .i64 0, .int .i64 pl] 32)) L ta tn) := ⟨hB2, heap_old (heap_alloc_new w2 _), _, hI.below hbt⟩
  clear hbw hb2 hI HB1 HP hbt hB2 HPt
  go_wp2_with fail
  refine HPr.out.mono ?_
  rintro e w3 ⟨rfl, hb3⟩
  have H3 : Hid (Below w.heap.size w w3 ∧ w3.heap[w2.heap.size]? = some (.cells #[.slice ta tn tc] 24 (0, 0)) ∧ ∃ X : Nat → Prop, ItsAt true X w3 L ta tn) := ⟨H2.out.1.trans (hb3.mono H2.out.1.size), by rw [hb3.block _ (lt_block H2.out.2.1)]; exact H2.out.2.1, H2.out.2.2.imp fun X h => h.below hb3⟩
  clear hb3 H2 HPr f
  generalize w2.heap.size = g1 at *
  clear w2
  go_wp2_with fail
  refine (HPu.out _).mono ?_
  rintro e w5 ⟨tb, um, uc, pl2, rfl, hum, hI5, hb5⟩
  have hbt := below_two w5 (.cells #[.slice tb um uc] 24) (.cells #[.int .i64 0, .int .i64 pl2] 32)
  have hb35 : Below w3.heap.size w3 ((w5.alloc (.cells #[.slice tb um uc] 24)).alloc (.cells #[.int .i64 0, .int .i64 pl2] 32)) := hb5.trans (hbt.mono hb5.size)
  have H6 : Hid (Below w.heap.size w ((w5.alloc (.cells #[.slice tb um uc] 24)).alloc (.cells #[.int .i64 0, .int .i64 pl2] 32)) ∧ ((w5.alloc (.cells #[.slice tb um uc] 24)).alloc (.cells #[.int .i64 0, .int .i64 pl2] 32)).heap[g1]? = some (.cells #[.slice ta tn tc] 24 (0, 0)) ∧ (∃ X : Nat → Prop, ItsAt true X ((w5.alloc (.cells #[.slice tb um uc] 24)).alloc (.cells #[.int .i64 0, .int .i64 pl2] 32)) L ta tn) ∧ ((w5.alloc (.cells #[.slice tb um uc] 24)).alloc (.cells #[.int .i64 0, .int .i64 pl2] 32)).heap[w5.heap.size + 1]? = some (.cells #[.int .i64 0, .int .i64 pl2] 32 (0, 0))) := ⟨H3.out.1.trans (hb35.mono H3.out.1.size), by rw [hb35.block _ (lt_block H3.out.2.1)]; exact H3.out.2.1, H3.out.2.2.imp fun X h => h.below hb35, twoN_new w5 _ _⟩
  have HSm2 : Hid (Calls Tryd.prog 13 #[.agg #[.slice tb um uc], .agg #[.slice ta tn tc]] ((w5.alloc (.cells #[.slice tb um uc] 24)).alloc (.cells #[.int .i64 0, .int .i64 pl2] 32)) fun e w' => e = .returned (.bool true) ∧ Below ((w5.alloc (.cells #[.slice tb um uc] 24)).alloc (.cells #[.int .i64 0, .int .i64 pl2] 32)).heap.size ((w5.alloc (.cells #[.slice tb um uc] 24)).alloc (.cells #[.int .i64 0, .int .i64 pl2] 32)) w') := HSm.out _ _ _ _ _ _ _ htn hum ⟨_, hI5.below hbt⟩ H6.out.2.2.1
  have x := blk (i := 0) H6.out.2.1 rfl
  clear hbt hb35 hb5 hI5 H3 HPu HSm hum
  go_wp2_with fail
  refine HSm2.out.mono ?_
  rintro e w6 ⟨rfl, hb6⟩
  have H7 : Hid (Below w.heap.size w w6 ∧ w6.heap[g1]? = some (.cells #[.slice ta tn tc] 24 (0, 0)) ∧ (∃ X : Nat → Prop, ItsAt true X w6 L ta tn) ∧ w6.heap[w5.heap.size + 1]? = some (.cells #[.int .i64 0, .int .i64 pl2] 32 (0, 0))) := ⟨H6.out.1.trans (hb6.mono H6.out.1.size), by rw [hb6.block _ (lt_block H6.out.2.1)]; exact H6.out.2.1, H6.out.2.2.1.imp fun X h => h.below hb6, by rw [hb6.block _ (lt_block H6.out.2.2.2)]; exact H6.out.2.2.2⟩
  clear hb6 H6 HSm2 x
  generalize w5.heap.size + 1 = g2 at *
  obtain ⟨X, hIX⟩ := H7.out.2.2.1
  obtain ⟨g, off, hka, hF'⟩ := itsAt_addr hIX
  have HF : Hid (ItsAt true X w6 L (some ⟨g, off + 0 * 4, none⟩) (tn - 0)) := hF'
  have H8 : Hid (Below w.heap.size w w6 ∧ w6.heap[g1]? = some (.cells #[.slice ta tn tc] 24 (0, 0)) ∧ w6.heap[g2]? = some (.cells #[.int .i64 0, .int .i64 pl2] 32 (0, 0))) := ⟨H7.out.1, H7.out.2.1, H7.out.2.2.2⟩
  clear hIX hF' H7
  go_wp2_with fail
  go_loopg [11, 12] tn (fun k av iv wr => ∃ (L' : List It) (i : Nat) (T : ByteArray), av = .string T ∧ iv = .int .i64 (i : Int) ∧ i + k = tn ∧ Hid (ItsAt true X wr L' (some ⟨g, off + i * 4, none⟩) (tn - i) ∧ (∀ i ∈ L', itRight i = true) ∧ T.data.toList ++ treeB L' = U) ∧ Hid (Below w.heap.size w wr ∧ wr.heap[g1]? = some (.cells #[.slice ta tn tc] 24 (0, 0)) ∧ wr.heap[g2]? = some (.cells #[.int .i64 0, .int .i64 pl2] 32 (0, 0))))
  case atStart => exact ⟨L, 0, ⟨#[]⟩, rfl, rfl, by omega, ⟨HF.out, HR.out, HL.out.1⟩, H8.out⟩
  case round =>
    clear HF HR H8
    obtain ⟨L', i, T, rfl, rfl, hik, HG, HB⟩ := hrel
    have x := blk (i := 0) HB.out.2.1 rfl
    have hT4 : T.data.toList.length ≤ 4000 := by
      have := congrArg List.length HG.out.2.2
      rw [List.length_append] at this
      have := HL.out.2
      omega
    rw [size_toList] at hT4
    by_cases hi : i < tn
    · have hdi : decide ((i : Int) < (tn : Int)) = true := by simp; omega
      have hd4 : decide ((4000 : Int) < (T.size : Int)) = false := by simp only [decide_eq_false_iff_not]; omega
      obtain ⟨it, r9, ka, kc, kk, rfl, -, hok, hkc, ⟨c0, c1, c2, c3⟩, hk2, hr2⟩ := itsAt_head HG.out.1 hi
      have hka2 := hka (by omega)
      subst hka2
      have hlen : T.size + (itB it).length + (treeB r9).length = U.length := by
        have := congrArg List.length HG.out.2.2
        rw [List.length_append, size_toList] at this
        rw [← this]
        show _ = T.size + (treeB (it :: r9)).length
        simp [treeB, List.flatMap_cons]
        omega
      have hU := HL.out.2
      have HLi : Hid (Calls Tryd.prog 8 #[.agg #[.slice (some ⟨wr.heap.size, 0, none⟩) 1 1]] (wr.alloc (.cells #[.int .i64 it.kind, .string (bs it.name), .slice ka kc kk, .int .i64 it.pl] 37)) fun e w' => e = .returned (.tuple #[.string (bs (itB it)), .int .i64 0]) ∧ Below (wr.alloc (.cells #[.int .i64 it.kind, .string (bs it.name), .slice ka kc kk, .int .i64 it.pl] 37)).heap.size (wr.alloc (.cells #[.int .i64 it.kind, .string (bs it.name), .slice ka kc kk, .int .i64 it.pl] 37)) w') :=
        HP1.out it _ _ (HG.out.2.1 it (by simp)) (by omega) (one_item hok hkc hk2) (HTab.out.below (HB.out.1.trans ((low_alloc wr _).mono HB.out.1.size)))
      obtain ⟨cc, d1, n1, e1⟩ := cat_var T (bs (itB it)) (by rw [bs_size]; omega)
      have HNx : Hid (ItsAt true X wr r9 (some ⟨g, off + (i + 1) * 4, none⟩) (tn - (i + 1)) ∧ (∀ i ∈ r9, itRight i = true) ∧ cc.data.toList ++ treeB r9 = U) := ⟨hr2, fun j hj => HG.out.2.1 j (by simp [hj]), by
        rw [d1, bs_data, List.append_assoc]; exact HG.out.2.2⟩
      generalize bs (itB it) = one at *
      have htn2 : i + 1 ≤ tn := hi
      clear HG hok hkc hk2 hr2 hlen hU d1 n1
      go_wp2_with fail
      refine HLi.out.mono ?_
      rintro e w9 ⟨rfl, hb9⟩
      have hbr : Below wr.heap.size wr w9 := (low_alloc wr _).trans (hb9.mono (low_alloc wr _).size)
      have HN2 : Hid (ItsAt true X w9 r9 (some ⟨g, off + (i + 1) * 4, none⟩) (tn - (i + 1)) ∧ (∀ i ∈ r9, itRight i = true) ∧ cc.data.toList ++ treeB r9 = U) := ⟨HNx.out.1.below hbr, HNx.out.2⟩
      have HB2 : Hid (Below w.heap.size w w9 ∧ w9.heap[g1]? = some (.cells #[.slice (some ⟨g, off, none⟩) tn tc] 24 (0, 0)) ∧ w9.heap[g2]? = some (.cells #[.int .i64 0, .int .i64 pl2] 32 (0, 0))) := ⟨HB.out.1.trans (hbr.mono HB.out.1.size), by rw [hbr.block _ (lt_block HB.out.2.1)]; exact HB.out.2.1, by rw [hbr.block _ (lt_block HB.out.2.2)]; exact HB.out.2.2⟩
      clear hb9 hbr HNx HLi c0 c1 c2 c3 x HB
      go_wp2_with fail
      go_roundg (gk - 1)
      case measure => omega
      case rel => exact ⟨r9, i + 1, cc, rfl, by go_num, by omega, HN2.out, HB2.out⟩
    · have hdi : decide ((i : Int) < (tn : Int)) = false := by simp; omega
      have hX : T.data.toList = U := by
        obtain ⟨h1, _, h3⟩ := HG.out
        rw [show tn - i = 0 by omega] at h1
        have h4 := itsAt_end h1
        subst h4
        have h5 : T.data.toList ++ [] = U := h3
        rw [List.append_nil] at h5
        exact h5
      have hTU : T = bs U := by
        apply ByteArray.ext
        apply Array.toList_inj.1
        rw [hX, bs_data]
      subst hTU
      have f := blk (i := 0) HB.out.2.2 rfl
      have HBf : Hid (Below w.heap.size w wr) := HB.out.1
      generalize bs U = sU at *
      clear HG hX HB HL HP1
      go_wp2
      go_ret
      exact ⟨rfl, HBf.out⟩
theorem source_walk (s : ByteArray) (w : World) (htab : TabOk w) (_ : s.size ≤ 9223372036854775807) :
    Calls Tryd.prog 5 #[.string s] w fun e w' => e = .returned (.bool true) ∧ Below w.heap.size w w' := by
  by_cases hc : (parseW s.data.toList).2.1 = 0
  · have hr := ((parse_right s.data.toList).2 hc).2.1
    by_cases hl : (treeB (parseW s.data.toList).1).length ≤ 4000
    · exact source_form s w htab _ hc (by unfold printB; rw [hr, if_pos rfl, if_pos hl])
    · exact source_long s w htab hc (by unfold printB; rw [hr, if_pos rfl, if_neg hl])
  · exact source_bad s w htab hc


namespace prettySource
open Go.ChangeShapes Go.WideShapes Go.ChangeAt Go.RowKit
open Go.ChangeMaps (open_string shut_string)

set_option maxRecDepth 100000 in
theorem lifted (os : Os) (started : os.Started) (H : Type) (enc : TypeId × Value → H) :
    ReturnsInHanded {} Tryd.checked os 5 .any (fun w args => (Rows.prettySourceSpec.pre enc Tryd.prog Tryd.f5 [] false w args ∧ laidMetH Tryd.prog theLaid w) ∧ sizedMet enc Tryd.prog Tryd.f5 (OpenSpec.ofChange Rows.prettySourceSpec) false w args)
      (Rows.prettySourceSpec.post enc Tryd.prog Tryd.f5 false true false false) := by
  refine returnsInHanded_of_change_and (C := Tryd.checked) (X := fun w _ => laidMetH Tryd.prog theLaid w) (fun _ _ _ hh h => h.of_heap hh) own started (by kernel_rfl) Tryd.func5
    (ChangeSpec.witness_shaped (enc := enc) (C := Tryd.checked) (os := os) (X := fun w _ => laidMetH Tryd.prog theLaid w) false (World.doorLaid Tryd.prog 400 os) #[.string ByteArray.empty] 8 rfl (World.shaped_of_RefB (by kernel_rfl) (by kernel_rfl)) (by kernel_rfl) (by kernel_rfl) (by kernel_rfl) (door_met os _)) ?_
  intro W base args ds gs before hval0 hW _ _ hL _
  have hval : ∀ (j : Nat) t v, Tryd.f5.params[j]? = some t → args[j]? = some v → Value.okWide Tryd.prog W .any base t v := hval0
  have hW' := hW
  obtain ⟨p, q, hA0, hV, rfl, hfz, hnd⟩ := hW
  have hA : DataW.TrodAll enc Tryd.prog W 0 (fun _ => true) true Tryd.f5.params.toList args.toList ds p := hA0
  rw [Tryd.params5] at hA hval
  obtain ⟨v0, vs0, d0, ds0, p0, q0, hargs, rfl, rfl, h0, r0⟩ := trodAll_cons hA
  obtain ⟨rfl, rfl, rfl⟩ := trodAll_nil r0
  obtain rfl : args = #[v0] := by cases args; simp_all
  obtain ⟨rfl, rfl⟩ := trodVars_none hV
  obtain ⟨a0, rfl, rfl, rfl, w0⟩ := open_string Tryd.underlying9 (hval 0 9 v0 rfl rfl) h0

  clear hA0 hval0
  refine (source_walk a0 W (tab_of_laid hL) w0).mono fun e W' ⟨he, bel⟩ => ?_
  subst he
  exact ⟨_, rfl, _, _, _, [], _, [], hW', trodAll_mk1 (shut_bool Tryd.underlying4 _), (trodAll_cons_mk (shut_string Tryd.underlying9 w0) trodAll_mk0), rfl, bel.frame _, fun h => by cases h⟩
end prettySource

theorem prettySource_holds : Rows.PrettySourceSaid :=
  OpenClaim.holds_of_wide 5 Tryd.f5 rfl rfl rfl rfl rfl rfl rfl ⟨rfl, rfl, rfl, rfl, rfl⟩ rfl rfl rfl rfl rfl (by kernel_rfl) Tryd.func5 (by kernel_rfl)
    (of_decide_eq_true (by kernel_rfl)) (by unfold Func.isWrapper; first | (rw [if_pos (by decide +kernel)]; kernel_rfl) | (rw [if_neg (by decide +kernel)]; exact ⟨rfl, rfl⟩))
    (fun os started H enc _ => prettySource.lifted os started H enc)

theorem prettySourceCard_holds : Rows.PrettySourceCardSaid :=
  Claim7.holds_tied_plain_at .later [] [.data, .data, .data] true (true, "2cc4468302e316018ec97142d67c77dc637a12be2100efdb9e5087b4b51305a0") false
    prettySource_holds (fun _ h => by cases h) (by kernel_rfl) (fun _ h => by cases h) prettySource_row_tie rfl ⟨rfl, rfl⟩ (by kernel_rfl) rfl
    (fun f fn hf hfn => by
      obtain rfl : f = 5 := Option.some.inj ((show Tryd.prog.funcNamed Rows.prettySourceRow.func = some 5 by kernel_rfl).symm.trans hf) |>.symm
      obtain rfl : fn = Tryd.f5 := (Option.some.inj (Tryd.func5.symm.trans hfn)).symm
      exact ⟨by kernel_rfl, fun j t ht => by
        rw [Tryd.params5] at ht
        have hm : t ∈ [9] := by simpa using Array.mem_of_getElem? ht
        have hall : ([9].all fun u => !Tryd.prog.wantsStandIn u) = true := by kernel_rfl
        exact (show Tryd.prog.wantsStandIn t = false by simpa using List.all_eq_true.1 hall t hm)⟩)
    (by kernel_rfl)
end Go.Proofs.YtpeldiibjhffiaaDoor
