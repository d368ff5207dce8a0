/-
  FastqJoins is proved for all pairs of texts: two files, one behind the other, are read as both; where the first is wrong at a line of its own, so are both, at that line. No condition.
-/
import Derived.Test.YtcpoiaclicmmmaaRows
import Derived.Test.YtcpoiaclicmmmaaReads
import Derived.Test.YtcpoiaclicmmmaaRun
import Derived.Laws.AppendOwnNone
namespace Go.Proofs.Ytcpoiaclicmmmaa
open Go.RowKit

theorem goQ_at (ls : List (List UInt8)) : ∀ (st : List Pr) (ph : Ph) (k : Nat), (goQ st ph k ls).2.1 ≤ k + ls.length + 1 := by
  induction ls with
  | nil =>
    intro st ph k
    unfold goQ
    split <;> simp
  | cons l ls ih =>
    intro st ph k
    unfold goQ
    split
    · simp
    · rename_i s hs
      have := ih s.1 s.2 (k + 1)
      simp only [List.length_cons]; omega
theorem parse_at (t : List UInt8) : (parseQ t).2.1 ≤ 1048577 := by
  unfold parseQ
  split
  · simp
  · have h1 := goQ_at (linesB t) [] .p0 0
    have h2 := linesB_length t []
    unfold linesB at h1 ⊢
    simp at h2
    omega

structure JoinInv (w w1 w2 w3 : World) (lv mv nv : Value) (n m k : Nat) (qs ms ns : List Rd) (wr : World) : Prop where
  l : wr.ownsRow w1.heap.size 29 4 lv n (rowCells qs)
  m : wr.ownsRow w2.heap.size 29 4 mv m (rowCells ms)
  n : wr.ownsRow w3.heap.size 29 4 nv k (rowCells ns)
  below : Below w.heap.size w wr
  size : w3.heap.size ≤ wr.heap.size
theorem JoinInv.next {w w1 w2 w3 wr w' : World} {lv mv nv : Value} {n m k : Nat} {qs ms ns : List Rd} (h : JoinInv w w1 w2 w3 lv mv nv n m k qs ms ns wr) (hb : Below wr.heap.size wr w') : JoinInv w w1 w2 w3 lv mv nv n m k qs ms ns w' :=
  ⟨owned_below h.l hb, owned_below h.m hb, owned_below h.n hb, h.below.trans (hb.mono h.below.size), Nat.le_trans h.size hb.size⟩

set_option maxRecDepth 100000 in
set_option maxHeartbeats 8000000 in
theorem joins_walk (a b : ByteArray) (w : World) (ha : a.size ≤ maxLen) (hb : b.size ≤ maxLen) : Calls Try.prog 6 #[.string a, .string b] w fun e w' => e = .returned (.bool true) ∧ Below w.heap.size w w' := by
  unfold maxLen at ha hb
  by_cases h1 : 1073741823 < a.size
  · have hd : decide ((1073741823 : Int) < a.size) = true := by simp; omega
    go_enter Try.func6, Try.ntmps6
    go_wp2
    go_ret
    exact ⟨rfl, Below.refl _ _⟩
  have hd1 : decide ((1073741823 : Int) < a.size) = false := by simp; omega
  by_cases h2 : 1073741823 < b.size
  · have hd : decide ((1073741823 : Int) < b.size) = true := by simp; omega
    go_enter Try.func6, Try.ntmps6
    go_wp2
    go_ret
    exact ⟨rfl, Below.refl _ _⟩
  have hd2 : decide ((1073741823 : Int) < b.size) = false := by simp; omega
  have hsb : (⟨#[10]⟩ : ByteArray).size = 1 := rfl
  have hcat1 : ∀ W, (Op.stringOp .add a ⟨#[10]⟩).run Try.prog W = .ok (.string (a ++ ⟨#[10]⟩)) W := fun W => run_string_add_sum W _ _ (by rw [hsb]; omega)
  have hcat2 : ∀ W, (Op.stringOp .add (a ++ ⟨#[10]⟩) b).run Try.prog W = .ok (.string (a ++ ⟨#[10]⟩ ++ b)) W := fun W => run_string_add_sum W _ _ (by rw [ByteArray.size_append, hsb]; omega)
  have HCL : Hid ((a ++ ⟨#[10]⟩ ++ b).data.toList = a.data.toList ++ 10 :: b.data.toList) := by
    show _ = _
    rw [ba_append, ba_append]; simp
  clear hsb ha hb
  go_enter Try.func6, Try.ntmps6
  go_wp2_with fail
  refine (awake_calls w).mono ?_
  rintro e w1 ⟨rfl, hb1⟩
  have HB1 : Hid (Below w.heap.size w w1) := hb1
  clear hb1
  go_wp2_with fail
  refine (parse_calls a w1).mono ?_
  rintro e w2 ⟨lv, qs, rfl, hlo, hlq, hb2⟩
  have HQ : Hid (qs.map Rd.P = (parseQ a.data.toList).1) := hlq
  have HLO : Hid (w2.ownsRow w1.heap.size 29 4 lv qs.length (rowCells qs)) := hlo
  have HB2 : Hid (Below w.heap.size w w2) := HB1.out.trans (hb2.mono HB1.out.size)
  have HS12 : Hid (w1.heap.size ≤ w2.heap.size) := hb2.size
  clear hlo hlq hb2
  go_wp2_with fail
  refine (parse_calls b w2).mono ?_
  rintro e w3 ⟨mv, ms, rfl, hmo, hmq, hb3⟩
  have HM : Hid (ms.map Rd.P = (parseQ b.data.toList).1) := hmq
  have HLO3 : Hid (w3.ownsRow w1.heap.size 29 4 lv qs.length (rowCells qs)) := owned_below HLO.out hb3
  have HMO3 : Hid (w3.ownsRow w2.heap.size 29 4 mv ms.length (rowCells ms)) := hmo
  have HB3 : Hid (Below w.heap.size w w3) := HB2.out.trans (hb3.mono HB2.out.size)
  have HS23 : Hid (w2.heap.size ≤ w3.heap.size) := hb3.size
  have HLB : Hid (∀ k, lv.ownBlock = some k → w1.heap.size ≤ k ∧ k < w2.heap.size) := fun k hk => HLO.out.lt k hk
  have HMB : Hid (∀ k, mv.ownBlock = some k → w2.heap.size ≤ k ∧ k < w3.heap.size) := fun k hk => HMO3.out.lt k hk
  clear hmo hmq hb3 HLO
  go_wp2_with fail
  generalize a ++ ⟨#[10]⟩ ++ b = c at *
  clear hcat1 hcat2
  refine (parse_calls c w3).mono ?_
  rintro e w4 ⟨nv, ns, rfl, hno, hnq, hb4⟩
  have HN : Hid (ns.map Rd.P = (parseQ c.data.toList).1) := hnq
  have HI : Hid (JoinInv w w1 w2 w3 lv mv nv qs.length ms.length ns.length qs ms ns w4) := ⟨owned_below HLO3.out hb4, owned_below HMO3.out hb4, hno, HB3.out.trans (hb4.mono HB3.out.size), hb4.size⟩
  have HQL : Hid (qs.length = (parseQ a.data.toList).1.length) := by
    have h3 := congrArg List.length HQ.out
    rw [List.length_map] at h3; exact h3
  have HML : Hid (ms.length = (parseQ b.data.toList).1.length) := by
    have h3 := congrArg List.length HM.out
    rw [List.length_map] at h3; exact h3
  have HNL : Hid (ns.length = (parseQ c.data.toList).1.length) := by
    have h3 := congrArg List.length HN.out
    rw [List.length_map] at h3; exact h3
  have hq64 : qs.length ≤ 256 := by rw [HQL.out]; exact parse_few _
  have hm64 : ms.length ≤ 256 := by rw [HML.out]; exact parse_few _
  obtain ⟨nl, HNl⟩ : ∃ nl, Hid (nl = (linesB a.data.toList).length) := ⟨_, rfl⟩
  have HF1 : Hid (a.size + b.size < 1048576 → (parseQ a.data.toList).2.2 ≠ 0 → nl < (parseQ a.data.toList).2.1 ∨ ((parseQ c.data.toList).2.2 = (parseQ a.data.toList).2.2 ∧ (parseQ c.data.toList).2.1 = (parseQ a.data.toList).2.1)) := by
    intro hs h
    rw [HCL.out, HNl.out]
    exact (joinQ a.data.toList b.data.toList (by rw [size_toList, size_toList]; exact hs)).1 h
  have HF2 : Hid (a.size + b.size < 1048576 → (parseQ a.data.toList).2.2 = 0 → ((parseQ b.data.toList).2.2 ≠ 0 ∨ 256 < qs.length + ms.length) → (parseQ c.data.toList).2.2 = 30 ∧ 1 ≤ (parseQ c.data.toList).2.1 ∧ ns.length = 0) := by
    intro hs h h2
    obtain ⟨j, h3, h4⟩ := (joinQ a.data.toList b.data.toList (by rw [size_toList, size_toList]; exact hs)).2.1 h (by rw [← HQL.out, ← HML.out]; exact h2)
    rw [HNL.out, HCL.out, h4]; exact ⟨rfl, h3, rfl⟩
  have HF3 : Hid (a.size + b.size < 1048576 → (parseQ a.data.toList).2.2 = 0 → (parseQ b.data.toList).2.2 = 0 → qs.length + ms.length ≤ 256 → (parseQ c.data.toList).2.2 = 0 ∧ (parseQ c.data.toList).2.1 = 0 ∧ ns.map Rd.P = (qs ++ ms).map Rd.P) := by
    intro hs h h2 h3
    have h4 := (joinQ a.data.toList b.data.toList (by rw [size_toList, size_toList]; exact hs)).2.2 h h2 (by rw [← HQL.out, ← HML.out]; exact h3)
    rw [HN.out, List.map_append, HQ.out, HM.out, HCL.out, h4]; exact ⟨rfl, rfl, rfl⟩
  have HJa : Hid ((parseQ a.data.toList).2.1 ≤ 1048577) := parse_at _
  obtain ⟨lao, lcap, rfl⟩ := owned_shape HLO3.out
  obtain ⟨mao, mcap, rfl⟩ := owned_shape HMO3.out
  obtain ⟨nao, ncap, rfl⟩ := owned_shape hno
  clear hno hnq hb4 HLO3 HMO3 HB2 HB3 HCL HQ HM HN HQL HML HNL
  generalize (parseQ a.data.toList).2.2 = ea at *
  generalize (parseQ b.data.toList).2.2 = eb at *
  generalize (parseQ c.data.toList).2.2 = gc at *
  generalize (parseQ c.data.toList).2.1 = jc at *
  generalize (parseQ a.data.toList).2.1 = ja at *
  generalize (parseQ b.data.toList).2.1 = jb at *
  generalize hqn : qs.length = n at *
  have HQN : Hid (qs.length = n) := hqn
  generalize hmn : ms.length = m at *
  have HMN : Hid (ms.length = m) := hmn
  generalize hnn : ns.length = kn at *
  have HNN : Hid (ns.length = kn) := hnn
  clear hqn hmn hnn
  have HBe4 : Hid (Below w.heap.size w w4) := HI.out.below
  by_cases hbig : 1048576 ≤ a.size + b.size
  · have hdb : decide ((1048576 : Int) ≤ (a.size : Int) + (b.size : Int)) = true := by simp; omega
    clear HF1 HF2 HF3 HI
    go_wp2
    go_ret
    exact ⟨rfl, HBe4.out⟩
  have hdb : decide ((1048576 : Int) ≤ (a.size : Int) + (b.size : Int)) = false := by simp; omega
  have HLi : Hid (Calls Try.prog 15 #[.string a] w4 fun e w' => LinesPost a w4 e w') := refLines_calls a w4 (by omega)
  go_wp2_with fail
  refine HLi.out.mono ?_
  rintro e w5 ⟨lv, ls, rfl, hlo, hll, hb5⟩
  have hlnl : ls.length = nl := by
    rw [HNl.out, ← hll]; simp
  have HI5 : Hid (JoinInv w w1 w2 w3 (.slice lao n lcap) (.slice mao m mcap) (.slice nao kn ncap) n m kn qs ms ns w5) := HI.out.next hb5
  have HBe5 : Hid (Below w.heap.size w w5) := HI5.out.below
  have hnls : nl ≤ 1048576 := by
    have h2 := linesB_length a.data.toList []
    have h1 := HNl.out
    unfold linesB at h1
    simp at h2
    omega
  obtain ⟨pao, pcap, rfl⟩ := owned_shape hlo
  rw [hlnl]
  clear hlo hll hb5 HLi hlnl HI HBe4 HNl
  by_cases hea : ea = 0
  · subst hea
    have hda : (((0 : Nat) : Int) != 0) = false := by decide
    by_cases hbad : eb ≠ 0 ∨ 256 < n + m
    · obtain ⟨hg, hj, hk⟩ := HF2.out (by omega) rfl hbad
      subst hg
      subst hk
      have hdj : decide ((1 : Int) ≤ (jc : Int)) = true := by simp; omega
      clear HF1 HF2 HF3 HI5
      by_cases heb : eb = 0
      · subst heb
        have hdeb : (((0 : Nat) : Int) != 0) = false := by decide
        have hdm : decide ((256 : Int) < (n : Int) + (m : Int)) = true := by
          rcases hbad with h | h
          · exact absurd rfl h
          · simp; omega
        clear hbad
        go_wp2
        go_ret
        exact ⟨rfl, HBe5.out⟩
      · have hdeb : ((eb : Int) != 0) = true := by simp; omega
        clear hbad
        go_wp2
        go_ret
        exact ⟨rfl, HBe5.out⟩
    · have heb : eb = 0 := by omega
      subst heb
      have hdeb : (((0 : Nat) : Int) != 0) = false := by decide
      have hdm : decide ((256 : Int) < (n : Int) + (m : Int)) = false := by simp; omega
      obtain ⟨hg0, hj0, hmap⟩ := HF3.out (by omega) rfl rfl (by omega)
      subst hg0
      subst hj0
      have HMap : Hid (ns.map Rd.P = (qs ++ ms).map Rd.P) := hmap
      clear hmap HF1 HF2 HF3 hbad
      obtain ⟨i0, hi, hz0, hz1, hz2⟩ := info_parts info29
      have HFin : Hid (∀ v' w6, w6.ownsRow w1.heap.size 29 4 v' (n + m) (rowCells qs ++ rowCells ms) → w6.ownsRow w3.heap.size 29 4 (.slice nao kn ncap) kn (rowCells ns) → ∃ ao cap, v' = .slice ao (n + m) cap ∧ Calls Try.prog 10 #[.slice nao kn ncap, .slice ao (n + m) cap] w6 fun e w' => e = .returned (.bool true) ∧ ∃ k, w' = w6.drewN k) := by
        intro v' w6 h1 h2
        obtain ⟨ao, cap, rfl⟩ := owned_shape h1
        rw [← rowCells_append] at h1
        refine ⟨ao, cap, rfl, ?_⟩
        have hl1 : (qs ++ ms).length = n + m := by rw [List.length_append, HQN.out, HMN.out]
        have h3 := same_calls nao ao kn (n + m) ncap cap ns (qs ++ ms) w6 (owned_rds h2) (owned_rds h1)
        rw [decide_eq_true HMap.out] at h3
        exact h3
      have hs3 : w3.heap.size ≤ w5.heap.size := HI5.out.size
      have hs2 : w2.heap.size ≤ w5.heap.size := Nat.le_trans HS23.out hs3
      have hs1 : w1.heap.size ≤ w5.heap.size := Nat.le_trans HS12.out hs2
      rcases HI5.out.m.2 with ⟨hv, hz⟩ | ⟨g, gcap, cur, hv, _, hgm, _⟩
      · cases hv
        have hms : ms = [] := List.eq_nil_of_length_eq_zero HMN.out
        subst hms
        obtain ⟨ao5, cap5, hv5, hcall⟩ := HFin.out (.slice lao n lcap) w5 (by simpa [rowCells] using HI5.out.l) HI5.out.n
        cases hv5
        have HCall : Hid (Calls Try.prog 10 #[.slice nao kn ncap, .slice lao n lcap] w5 fun e w' => e = .returned (.bool true) ∧ ∃ k, w' = w5.drewN k) := hcall
        have HLz : Hid (w5.ownsRow w1.heap.size 29 4 (.slice lao n lcap) n (rowCells qs)) := HI5.out.l
        clear hcall HFin HI5 HMap
        go_wp2_with (first
          | (at_builtin; go_loud (refine wpList_append_own_none rfl _ _ 23 rfl w1.heap.size 29 i0 4 Try.underlying23 hi _ _ _ rfl HLz.out rfl ?_))
          | (go_at_call 10; refine HCall.out.mono ?_; rintro e w6 ⟨rfl, kd, hw6⟩))
        go_ret
        exact ⟨rfl, below_drewN HBe5.out kd⟩
      · cases hv
        have HLz : Hid (w5.ownsRow w1.heap.size 29 4 (.slice lao n lcap) n (rowCells qs)) := HI5.out.l
        have HMz : Hid (w5.ownsRow w2.heap.size 29 4 (.slice (some ⟨g, 0, none⟩) m mcap) m (rowCells ms)) := HI5.out.m
        have HNz : Hid (w5.ownsRow w3.heap.size 29 4 (.slice nao kn ncap) kn (rowCells ns)) := HI5.out.n
        clear HI5 HMap hgm
        go_wp2_with (at_builtin; go_loud (refine wpList_append_own _ rfl _ _ 23 rfl w1.heap.size 29 i0 _ 4 64 Try.underlying23 hi hz0 hz1 hz2 rfl (by decide) _ _ _ rfl HLz.out ⟨g, 0, none⟩ m mcap (rowCells ms) rfl ?c0 ?c1 ?c2 ?c3 ?c4 ?c5 ?_))
        case c0 => rw [rowCells_length, HMN.out]
        case c1 =>
          intro j u hu
          have hadd : (⟨g, 0, none⟩ : Addr).add j = ⟨g, j, none⟩ := by unfold Addr.add; split <;> simp_all
          rw [hadd]; exact (owned_cells HMz.out j u hu).1
        case c2 =>
          intro u hu
          unfold rowCells at hu
          obtain ⟨q, _, hq⟩ := List.mem_flatMap.1 hu
          exact rd_oneCell q u hq
        case c3 => unfold maxLen; omega
        case c4 => omega
        case c5 => exact hs1
        intro v' w6 ho6 hg6 _
        have hn6 := owned_grownBelow HNz.out (fun k hk => Nat.lt_of_lt_of_le (HLB.out k hk).2 HS23.out) hg6
        have HB6 : Hid (Below w.heap.size w w6) := HBe5.out.grown hg6 HBe5.out.size (fun k hk => Nat.le_trans HB1.out.size (HLB.out k hk).1)
        obtain ⟨ao5, cap5, rfl, hcall⟩ := HFin.out v' w6 ho6 hn6
        have HCall : Hid (Calls Try.prog 10 #[.slice nao kn ncap, .slice ao5 (n + m) cap5] w6 fun e w' => e = .returned (.bool true) ∧ ∃ k, w' = w6.drewN k) := hcall
        clear hcall HFin ho6 hg6 hn6 HLz HMz HNz HBe5
        go_wp2_with (go_at_call 10; refine HCall.out.mono ?_; rintro e w7 ⟨rfl, kd, hw7⟩)
        go_ret
        exact ⟨rfl, below_drewN HB6.out kd⟩
  · have hda : ((ea : Int) != 0) = true := by simp; omega
    have hja := HJa.out
    rcases HF1.out (by omega) hea with h | ⟨h3, h4⟩
    · have hdl : decide ((nl : Int) < (ja : Int)) = true := by simp; omega
      clear HF1 HF2 HF3 HI5
      go_wp2
      go_ret
      exact ⟨rfl, HBe5.out⟩
    · subst h3
      subst h4
      clear HF1 HF2 HF3 HI5
      by_cases h5 : nl < jc
      · have hdl : decide ((nl : Int) < (jc : Int)) = true := by simp; omega
        go_wp2
        go_ret
        exact ⟨rfl, HBe5.out⟩
      · have hdl : decide ((nl : Int) < (jc : Int)) = false := by simp; omega
        go_wp2
        go_ret
        exact ⟨ret_bool (by simp), HBe5.out⟩

namespace fastqJoins
open Go.ChangeShapes Go.WideShapes Go.ChangeAt Go.RowKit
open Go.ChangeMaps (open_string shut_string)
theorem own : ownKnob Try.prog.godebug = none := by kernel_rfl

set_option maxRecDepth 100000 in
theorem lifted (os : Os) (started : os.Started) (H : Type) (enc : TypeId × Value → H) :
    ReturnsInHanded {} Try.checked os 6 .any (Rows.fastqJoinsSpec.pre6 enc Try.prog Try.f6 Rows.fastqJoinsRow.domain false) (Rows.fastqJoinsSpec.post enc Try.prog Try.f6 false true false false) := by
  refine returnsInHanded_of_change (C := Try.checked) own started (by kernel_rfl) Try.func6
    (ChangeSpec.witness6 (enc := enc) (C := Try.checked) false ⟨#[], #[.string ByteArray.empty, .string ByteArray.empty], []⟩ 8 (by kernel_rfl) (by kernel_rfl) (by kernel_rfl) (by kernel_rfl)) ?_
  intro W base args ds gs before hval0 hW _ _
  have hval : ∀ (j : Nat) t v, Try.f6.params[j]? = some t → args[j]? = some v → Value.okWide Try.prog W .any base t v := hval0
  have hW' := hW
  obtain ⟨p, q, hA0, hV, rfl, hfz, hnd⟩ := hW
  have hA : DataW.TrodAll enc Try.prog W 0 (fun _ => true) true Try.f6.params.toList args.toList ds p := hA0
  rw [Try.params6] at hA hval
  obtain ⟨v0, vs0, d0, ds0, p0, q0, hargs, rfl, rfl, h0, r0⟩ := trodAll_cons hA
  obtain ⟨v1, vs1, d1, ds1, p1, q1, rfl, rfl, rfl, h1, r1⟩ := trodAll_cons r0
  obtain ⟨rfl, rfl, rfl⟩ := trodAll_nil r1
  obtain rfl : args = #[v0, v1] := by cases args; simp_all
  obtain ⟨rfl, rfl⟩ := trodVars_none hV
  obtain ⟨a0, rfl, rfl, rfl, w0⟩ := open_string Try.underlying9 (hval 0 9 v0 rfl rfl) h0
  obtain ⟨a1, rfl, rfl, rfl, w1⟩ := open_string Try.underlying9 (hval 1 9 v1 rfl rfl) h1
  clear hA0 hval0
  refine (joins_walk a0 a1 W w0 w1).mono fun e W' ⟨he, bel⟩ => ?_
  subst he
  exact ⟨_, rfl, _, _, _, [], _, [], hW', trodAll_mk1 (shut_bool Try.underlying4 _), (trodAll_cons_mk (shut_string Try.underlying9 w0) (trodAll_cons_mk (shut_string Try.underlying9 w1) trodAll_mk0)), rfl, bel.frame _, fun h => by cases h⟩
end fastqJoins

theorem fastqJoins_holds : Rows.FastqJoinsSaid :=
  OpenClaim.holds_of_wide 6 Try.f6 rfl rfl rfl rfl rfl rfl rfl ⟨rfl, rfl, rfl, rfl, rfl⟩ rfl rfl rfl rfl rfl (by kernel_rfl) Try.func6 (by kernel_rfl)
    (of_decide_eq_true (by kernel_rfl)) (by unfold Func.isWrapper; first | (rw [if_pos (by decide +kernel)]; kernel_rfl) | (rw [if_neg (by decide +kernel)]; exact ⟨rfl, rfl⟩))
    (fun os started H enc _ => fastqJoins.lifted os started H enc)
end Go.Proofs.Ytcpoiaclicmmmaa
