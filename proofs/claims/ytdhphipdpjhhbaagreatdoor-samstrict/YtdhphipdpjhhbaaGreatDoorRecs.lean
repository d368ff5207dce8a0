/-
  Records and fields as values; the walks of sam's takesAll, endsWithin, isRight.
-/
import Derived.Test.YtdhphipdpjhhbaaGreatDoorSpans
import Derived.Test.YtdhphipdpjhhbaaGreatDoorNames
import Derived.Test.YtdhphipdpjhhbaaGreatDoorFilePlain
namespace Go.Proofs.YtdhphipdpjhhbaaGreatDoor
open Go.RowKit

/-- A record as a value: its fields, its slice of runs. -/
structure RV where
  name : ByteArray
  mapped : Bool
  ref : ByteArray
  pos : Int
  ao : Option Addr
  len : Nat
  cap : Nat
  bases : ByteArray
  quals : ByteArray
  score : Int
abbrev RV.val (v : RV) : Value := .agg #[.string v.name, .bool v.mapped, .string v.ref, .int .i64 v.pos, .slice v.ao v.len v.cap, .string v.bases, .string v.quals, .int .i64 v.score]
/-- The record that it is, with runs l. -/
def RV.R (v : RV) (l : List Rn) : Rec := ⟨v.name.data.toList, v.mapped, v.ref.data.toList, v.pos, l, v.bases.data.toList, v.quals.data.toList, v.score⟩
/-- It can be read in a world. -/
structure RecOk (w : World) (v : RV) (l : List Rn) : Prop where
  name : v.name.size ≤ maxLen
  ref : v.ref.size ≤ maxLen
  bases : v.bases.size ≤ maxLen
  quals : v.quals.size ≤ maxLen
  pos : fitI v.pos
  score : fitI v.score
  runs : RnsAt w v.ao v.len l
theorem RecOk.below {w w' : World} {v : RV} {l : List Rn} (h : RecOk w v l) (hb : Below w.heap.size w w') : RecOk w' v l :=
  ⟨h.name, h.ref, h.bases, h.quals, h.pos, h.score, h.runs.below hb⟩
/-- What a block that was made ahead of a call holds behind it. -/
theorem box_cell {w w1 : World} {cs : Array Value} {t : TypeId} (hb : Below (w.alloc (.cells cs t)).heap.size (w.alloc (.cells cs t)) w1) {i : Nat} {u : Value} (hi : cs[i]? = some u) : w1.cell? ⟨w.heap.size, i, none⟩ = some u := by
  have h1 : w1.heap[w.heap.size]? = some (.cells cs t (0, 0)) := by
    rw [hb.block _ (by simp)]; exact heap_alloc_new w _
  rw [Lib.cell_of_heap h1]
  exact hi
theorem below_box {w w1 : World} {o : Obj} (hb : Below (w.alloc o).heap.size (w.alloc o) w1) : Below w.heap.size w w1 :=
  ((Below.refl w.heap.size w).alloc (Nat.le_refl _) o).trans (hb.mono (by simp))
theorem below_new (w : World) (o : Obj) : Below w.heap.size w (w.alloc o) := (Below.refl _ w).alloc (Nat.le_refl _) o

def allB (r : Rec) : Bool := rightB r.runs && decide (readB r.runs = (r.bases.length : Int))
def endsB (r : Rec) (n : Int) : Bool := decide (r.pos - 1 ≤ n - (spansA r.runs).1)
theorem spansA_bounds (l : List Rn) : 0 ≤ (spansA l).1 ∧ (spansA l).1 ≤ 17180131328 := by
  unfold spansA
  split
  · rename_i h
    have h1 := spans_small l (fun r hr => (right_each h r hr).2) l.length (Nat.le_refl _)
    have h2 := right_few h
    rw [List.take_length] at h1
    simp only
    omega
  · simp

set_option maxHeartbeats 1000000 in
theorem takesAll_calls (v : RV) (l : List Rn) (w : World) (h : RecOk w v l) :
    Calls Tryz.prog 53 #[v.val] w fun e w' => e = .returned (.bool (allB (v.R l))) ∧ Below w.heap.size w w' := by
  obtain ⟨n, m, rf, p, ao, len, cap, b, q, s⟩ := v
  have HC := spans_calls ao len cap l (w.alloc (.cells #[.string n, .bool m, .string rf, .int .i64 p, .slice ao len cap, .string b, .string q, .int .i64 s] 24)) (h.runs.below (below_new _ _))
  have hbs := h.bases
  unfold maxLen at hbs
  simp only at hbs
  have HE : Hid (allB ((⟨n, m, rf, p, ao, len, cap, b, q, s⟩ : RV).R l) = (decide ((spansA l).2.2 = 0) && decide ((spansA l).2.1 = (b.size : Int)))) := by
    show allB _ = _
    unfold allB RV.R spansA
    simp only [size_toList]
    cases rightB l <;> simp
  obtain ⟨x, y, z, hxyz⟩ : ∃ x y z, spansA l = (x, y, z) := ⟨_, _, _, rfl⟩
  rw [hxyz] at HC HE
  have HC' : Hid (Calls Tryz.prog 80 #[.slice ao len cap] (w.alloc (.cells #[.string n, .bool m, .string rf, .int .i64 p, .slice ao len cap, .string b, .string q, .int .i64 s] 24)) fun e w' => e = .returned (spansV (x, y, z)) ∧ Below (w.alloc (.cells #[.string n, .bool m, .string rf, .int .i64 p, .slice ao len cap, .string b, .string q, .int .i64 s] 24)).heap.size (w.alloc (.cells #[.string n, .bool m, .string rf, .int .i64 p, .slice ao len cap, .string b, .string q, .int .i64 s] 24)) w') := HC
  clear HC h hxyz
  generalize allB ((⟨n, m, rf, p, ao, len, cap, b, q, s⟩ : RV).R l) = A at *
  simp only [RV.val]
  go_enter Tryz.func53, Tryz.ntmps53
  go_wp2_with fail
  refine HC'.out.mono ?_
  rintro e w1 ⟨rfl, hb1⟩
  have hc5 := box_cell hb1 (i := 5) rfl
  have HB : Hid (Below w.heap.size w w1) := below_box hb1
  clear hb1 HC'
  simp only [spansV]
  go_wp2
  all_goals (go_ret; refine ⟨ret_bool ?_, HB.out⟩; rw [HE.out, Bool.eq_iff_iff]; clear HE HB; simp_all)

set_option maxHeartbeats 1000000 in
theorem endsWithin_calls (v : RV) (l : List Rn) (n : Int) (w : World) (h : RecOk w v l) (hp : 1 ≤ v.pos) (hn : 0 ≤ n ∧ n ≤ 65536) :
    Calls Tryz.prog 54 #[v.val, .int .i64 n] w fun e w' => e = .returned (.bool (endsB (v.R l) n)) ∧ Below w.heap.size w w' := by
  obtain ⟨nm, m, rf, p, ao, len, cap, b, q, s⟩ := v
  have HC : Hid (∀ W, Below w.heap.size w W → Calls Tryz.prog 80 #[.slice ao len cap] W fun e w' => e = .returned (spansV (spansA l)) ∧ Below W.heap.size W w') := fun W hW => spans_calls ao len cap l W (h.runs.below hW)
  obtain ⟨hp1, hp2⟩ := h.pos
  obtain ⟨hx1, hx2⟩ := spansA_bounds l
  simp only at hp hp1 hp2
  have HE : Hid (endsB ((⟨nm, m, rf, p, ao, len, cap, b, q, s⟩ : RV).R l) n = decide (p - 1 ≤ n - (spansA l).1)) := rfl
  obtain ⟨x, y, z, hxyz⟩ : ∃ x y z, spansA l = (x, y, z) := ⟨_, _, _, rfl⟩
  rw [hxyz] at HC HE hx1 hx2
  simp only at HE hx1 hx2
  clear h hxyz
  generalize endsB ((⟨nm, m, rf, p, ao, len, cap, b, q, s⟩ : RV).R l) n = A at *
  simp only [RV.val]
  go_enter Tryz.func54, Tryz.ntmps54
  go_wp2_with fail
  refine (HC.out _ (below_new _ _)).mono ?_
  rintro e w1 ⟨rfl, hb1⟩
  have hc3 := box_cell hb1 (i := 3) rfl
  have HB : Hid (Below w.heap.size w w1) := below_box hb1
  clear hb1 HC
  simp only [spansV]
  go_wp2
  all_goals (go_ret; refine ⟨ret_bool ?_, HB.out⟩; rw [HE.out])

/-- What isRight asks, in its order. -/
theorem rightR_split (r : Rec) : rightR r = (nameB r.name && (basesB r.bases && (decide (r.quals.length = r.bases.length) && (signsB r.quals && placeOkB r)))) := by
  unfold rightR readOkB
  simp only [Bool.and_assoc]
theorem placeOk_map (r : Rec) (h : r.mapped = true) : placeOkB r = (nameB r.ref && (decide (1 ≤ r.pos) && (allB r && endsB r 65536))) := by
  unfold placeOkB allB endsB
  rw [if_pos h]
  by_cases hr : rightB r.runs = true
  · have : spansA r.runs = (refB r.runs, readB r.runs, 0) := by rw [spansA, if_pos hr]
    rw [this, hr]
    simp only [Bool.true_and]
    congr 3
    rw [decide_eq_decide]
    omega
  · rw [Bool.not_eq_true] at hr
    rw [hr]; simp
theorem placeOk_plain (r : Rec) (h : r.mapped = false) : placeOkB r = ((decide (r.ref = []) && (decide (r.pos = 0) && decide (r.score = 0))) && decide (r.runs = [])) := by
  unfold placeOkB
  rw [if_neg (by rw [h]; decide)]
  simp only [Bool.and_assoc]
theorem guard89 : Tryz.prog.eqGuardType Tryz.prog.depth 89 = false := by kernel_rfl
theorem fields89 : Tryz.prog.underlying 89 = some (.struct (Tryz.prog.fieldsOf 89)) := by kernel_rfl
theorem held89 : Tryz.prog.stoodInHeld 89 = false := by kernel_rfl
theorem equal_place (a : ByteArray) (x y : Int) (W : World) : (Op.equalIn 10000 89 (.agg #[.string a, .int .i64 x, .int .i64 y]) (.agg #[.string ⟨#[]⟩, .int .i64 0, .int .i64 0])).run Tryz.prog W = .ok (decide (a.data.toList = []) && (decide (x = 0) && decide (y = 0))) W := by
  rw [show (10000 : Nat) = 9999 + 1 from rfl, run_equalIn_agg W 9999 89 _ _ fields89 held89]
  simp only [Program.fieldsOf, Tryz.underlying89]
  go_simp
  by_cases h1 : a.data = #[] <;> by_cases h2 : x = 0 <;> by_cases h3 : y = 0 <;> simp [h1, h2, h3, ByteArray.toList_eq]

set_option maxRecDepth 20000 in
set_option maxHeartbeats 2000000 in
theorem isRight_calls (v : RV) (l : List Rn) (w : World) (h : RecOk w v l) :
    Calls Tryz.prog 27 #[v.val] w fun e w' => e = .returned (.bool (rightR (v.R l))) ∧ Below w.heap.size w w' := by
  have HAll : Hid (∀ W, Below w.heap.size w W → Calls Tryz.prog 53 #[v.val] W fun e w' => e = .returned (.bool (allB (v.R l))) ∧ Below W.heap.size W w') := fun W hW => takesAll_calls v l W (h.below hW)
  have HEnd : Hid (∀ W, Below w.heap.size w W → 1 ≤ v.pos → Calls Tryz.prog 54 #[v.val, .int .i64 65536] W fun e w' => e = .returned (.bool (endsB (v.R l) 65536)) ∧ Below W.heap.size W w') := fun W hW hp => endsWithin_calls v l 65536 W (h.below hW) hp (by decide)
  obtain ⟨nm, m, rf, p, ao, len, cap, b, q, s⟩ := v
  have H1 : Hid (∀ W, Calls Tryz.prog 50 #[.string nm] W fun e w' => e = .returned (.bool (nameB nm.data.toList)) ∧ w' = W) := fun W => isName_calls nm W h.name
  have H2 : Hid (∀ W, Calls Tryz.prog 51 #[.string b] W fun e w' => e = .returned (.bool (basesB b.data.toList)) ∧ w' = W) := fun W => areBases_calls b W h.bases
  have H3 : Hid (∀ W, Calls Tryz.prog 52 #[.string q] W fun e w' => e = .returned (.bool (signsB q.data.toList)) ∧ w' = W) := fun W => areSigns_calls q W h.quals
  have H4 : Hid (∀ W, Calls Tryz.prog 50 #[.string rf] W fun e w' => e = .returned (.bool (nameB rf.data.toList)) ∧ w' = W) := fun W => isName_calls rf W h.ref
  have HR := rightR_split ((⟨nm, m, rf, p, ao, len, cap, b, q, s⟩ : RV).R l)
  simp only [RV.R, size_toList] at HR
  have hbs := h.bases
  have hqs := h.quals
  have hpf := h.pos
  have hsf := h.score
  have hln := h.runs.length
  have hls := h.runs.short
  unfold maxLen at hbs hqs hls
  unfold fitI at hpf hsf
  simp only at hbs hqs hpf hsf hln hls
  have HR' : Hid (rightR ((⟨nm, m, rf, p, ao, len, cap, b, q, s⟩ : RV).R l) = _) := HR
  have hpl := @equal_place rf p s
  clear HR h
  generalize rightR ((⟨nm, m, rf, p, ao, len, cap, b, q, s⟩ : RV).R l) = Z at *
  generalize nameB nm.data.toList = A1 at *
  generalize basesB b.data.toList = A2 at *
  generalize signsB q.data.toList = A4 at *
  have HN : Hid (∀ o, Below w.heap.size w (w.alloc o)) := below_new w
  cases A1 with
  | false =>
    have HF : Hid (Z = false) := by show _ = _; rw [HR'.out]; rfl
    clear HR' H4 hpl HAll HEnd H2 H3
    simp only [RV.val]
    go_enter Tryz.func27, Tryz.ntmps27
    go_wp2_with (go_at_call 50; refine (H1.out _).mono ?_; rintro e w' ⟨rfl, rfl⟩)
    go_ret
    exact ⟨ret_bool HF.out.symm, HN.out _⟩
  | true =>
  cases A2 with
  | false =>
    have HF : Hid (Z = false) := by show _ = _; rw [HR'.out]; rfl
    clear HR' H4 hpl HAll HEnd H3
    simp only [RV.val]
    go_enter Tryz.func27, Tryz.ntmps27
    go_wp2_with (first
      | (go_at_call 50; refine (H1.out _).mono ?_; rintro e w' ⟨rfl, rfl⟩)
      | (go_at_call 51; refine (H2.out _).mono ?_; rintro e w' ⟨rfl, rfl⟩))
    go_ret
    exact ⟨ret_bool HF.out.symm, HN.out _⟩
  | true =>
  by_cases hqb : q.size = b.size
  case neg =>
    have HF : Hid (Z = false) := by show _ = _; rw [HR'.out]; simp [hqb]
    have hq2 : ((q.size : Int) != (b.size : Int)) = true := by rw [bne_iff_ne]; omega
    have hq3 : ¬ (q.size : Int) = (b.size : Int) := by omega
    clear HR' H4 hpl HAll HEnd H3
    simp only [RV.val]
    go_enter Tryz.func27, Tryz.ntmps27
    go_wp2_with (first
      | (go_at_call 50; refine (H1.out _).mono ?_; rintro e w' ⟨rfl, rfl⟩)
      | (go_at_call 51; refine (H2.out _).mono ?_; rintro e w' ⟨rfl, rfl⟩))
    go_ret
    exact ⟨ret_bool HF.out.symm, HN.out _⟩
  have hq2 : ((q.size : Int) != (b.size : Int)) = false := by rw [bne_eq_false_iff_eq]; omega
  cases A4 with
  | false =>
    have HF : Hid (Z = false) := by show _ = _; rw [HR'.out]; simp
    clear HR' H4 hpl HAll HEnd hqb
    simp only [RV.val]
    go_enter Tryz.func27, Tryz.ntmps27
    go_wp2_with (first
      | (go_at_call 50; refine (H1.out _).mono ?_; rintro e w' ⟨rfl, rfl⟩)
      | (go_at_call 51; refine (H2.out _).mono ?_; rintro e w' ⟨rfl, rfl⟩)
      | (go_at_call 52; refine (H3.out _).mono ?_; rintro e w' ⟨rfl, rfl⟩))
    go_ret
    exact ⟨ret_bool HF.out.symm, HN.out _⟩
  | true =>
    have HZ : Hid (Z = placeOkB ((⟨nm, m, rf, p, ao, len, cap, b, q, s⟩ : RV).R l)) := by show _ = _; rw [HR'.out]; simp [hqb, RV.R]
    clear HR' hqb
    cases m with
    | false =>
      have hl0 : decide (l = []) = ((len : Int) == 0) := by
        rw [Bool.eq_iff_iff]
        simp only [decide_eq_true_eq, beq_iff_eq]
        rw [← List.length_eq_zero_iff, hln]; omega
      have HZ2 : Hid (Z = ((decide (rf.data.toList = []) && (decide (p = 0) && decide (s = 0))) && ((len : Int) == 0))) := by
        show _ = _
        rw [HZ.out, placeOk_plain _ rfl]
        exact congrArg (fun x => ((decide (rf.data.toList = []) && (decide (p = 0) && decide (s = 0))) && x)) hl0
      clear HZ HAll HEnd H4 hl0 hln
      generalize (decide (rf.data.toList = []) && (decide (p = 0) && decide (s = 0))) = P at *
      simp only [RV.val]
      go_enter Tryz.func27, Tryz.ntmps27
      go_wp2_with (first
        | (go_at_call 50; refine (H1.out _).mono ?_; rintro e w' ⟨rfl, rfl⟩)
        | (go_at_call 51; refine (H2.out _).mono ?_; rintro e w' ⟨rfl, rfl⟩)
        | (go_at_call 52; refine (H3.out _).mono ?_; rintro e w' ⟨rfl, rfl⟩))
      all_goals (go_ret; refine ⟨ret_bool ?_, HN.out _⟩; rw [HZ2.out]; clear HZ2 HN H1 H2 H3; simp_all)
    | true =>
      have HZ2 : Hid (Z = (nameB rf.data.toList && (decide (1 ≤ p) && (allB ((⟨nm, true, rf, p, ao, len, cap, b, q, s⟩ : RV).R l) && endsB ((⟨nm, true, rf, p, ao, len, cap, b, q, s⟩ : RV).R l) 65536)))) := by
        show _ = _
        rw [HZ.out, placeOk_map _ rfl]
        rfl
      clear HZ hpl hln
      generalize allB ((⟨nm, true, rf, p, ao, len, cap, b, q, s⟩ : RV).R l) = B3 at *
      generalize endsB ((⟨nm, true, rf, p, ao, len, cap, b, q, s⟩ : RV).R l) 65536 = B4 at *
      generalize nameB rf.data.toList = B1 at *
      have HBx : Hid (∀ W W', Below w.heap.size w W → Below W.heap.size W W' → Below w.heap.size w W') := fun W W' h1 h2 => h1.trans (h2.mono h1.size)
      cases B1 with
      | false =>
        have HF : Hid (Z = false) := by show _ = _; rw [HZ2.out]; rfl
        clear HZ2 HAll HEnd
        simp only [RV.val]
        go_enter Tryz.func27, Tryz.ntmps27
        go_wp2_with (first
          | (go_at_call 50; refine (H1.out _).mono ?_; rintro e w' ⟨rfl, rfl⟩)
          | (go_at_call 51; refine (H2.out _).mono ?_; rintro e w' ⟨rfl, rfl⟩)
          | (go_at_call 52; refine (H3.out _).mono ?_; rintro e w' ⟨rfl, rfl⟩; clear H1)
          | (go_at_call 50; refine (H4.out _).mono ?_; rintro e w' ⟨rfl, rfl⟩))
        go_ret
        exact ⟨ret_bool HF.out.symm, HN.out _⟩
      | true =>
        by_cases hp1 : 1 ≤ p
        · have hdp : decide ((1 : Int) ≤ p) = true := by simp [hp1]
          have HEnd2 : Hid (∀ W, Below w.heap.size w W → Calls Tryz.prog 54 #[(⟨nm, true, rf, p, ao, len, cap, b, q, s⟩ : RV).val, .int .i64 65536] W fun e w' => e = .returned (.bool B4) ∧ Below W.heap.size W w') := fun W hW => HEnd.out W hW hp1
          clear HEnd
          simp only [RV.val] at *
          go_enter Tryz.func27, Tryz.ntmps27
          go_wp2_with (first
            | (go_at_call 50; refine (H1.out _).mono ?_; rintro e w' ⟨rfl, rfl⟩)
            | (go_at_call 51; refine (H2.out _).mono ?_; rintro e w' ⟨rfl, rfl⟩)
            | (go_at_call 52; refine (H3.out _).mono ?_; rintro e w' ⟨rfl, rfl⟩; clear H1)
            | (go_at_call 50; refine (H4.out _).mono ?_; rintro e w' ⟨rfl, rfl⟩)
            | fail)
          refine (HAll.out _ (HN.out _)).mono ?_
          rintro e w1 ⟨rfl, hb1⟩
          have HB1 : Hid (Below w.heap.size w w1) := below_box hb1
          have hc0 := box_cell hb1 (i := 0) rfl
          have hc1 := box_cell hb1 (i := 1) rfl
          have hc2 := box_cell hb1 (i := 2) rfl
          have hc3 := box_cell hb1 (i := 3) rfl
          have hc4 := box_cell hb1 (i := 4) rfl
          have hc5 := box_cell hb1 (i := 5) rfl
          have hc6 := box_cell hb1 (i := 6) rfl
          have hc7 := box_cell hb1 (i := 7) rfl
          clear hb1 HAll H2 H3 H4
          cases B3 with
          | false =>
            have HF : Hid (Z = false) := by show _ = _; rw [HZ2.out, hdp]; rfl
            clear HZ2 HEnd2
            go_wp2
            go_ret
            exact ⟨ret_bool HF.out.symm, HB1.out⟩
          | true =>
            have HF : Hid (Z = B4) := by show _ = _; rw [HZ2.out, hdp]; rfl
            clear HZ2
            go_wp2_with fail
            refine (HEnd2.out _ HB1.out).mono ?_
            rintro e w2 ⟨rfl, hb2⟩
            have HB2 : Hid (Below w.heap.size w w2) := HBx.out _ _ HB1.out hb2
            clear hb2 HEnd2 HB1
            go_wp2
            go_ret
            exact ⟨ret_bool HF.out.symm, HB2.out⟩
        · have hdp : decide ((1 : Int) ≤ p) = false := by simp; omega
          have HF : Hid (Z = false) := by show _ = _; rw [HZ2.out, hdp]; rfl
          clear HZ2 HAll HEnd
          simp only [RV.val]
          go_enter Tryz.func27, Tryz.ntmps27
          go_wp2_with (first
            | (go_at_call 50; refine (H1.out _).mono ?_; rintro e w' ⟨rfl, rfl⟩)
            | (go_at_call 51; refine (H2.out _).mono ?_; rintro e w' ⟨rfl, rfl⟩)
            | (go_at_call 52; refine (H3.out _).mono ?_; rintro e w' ⟨rfl, rfl⟩; clear H1)
            | (go_at_call 50; refine (H4.out _).mono ?_; rintro e w' ⟨rfl, rfl⟩))
          go_ret
          exact ⟨ret_bool HF.out.symm, HN.out _⟩
end Go.Proofs.YtdhphipdpjhhbaaGreatDoor
