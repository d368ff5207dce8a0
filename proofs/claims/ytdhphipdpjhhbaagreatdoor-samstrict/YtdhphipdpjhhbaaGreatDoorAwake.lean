/-
  The walk of the statements' own awake.
-/
import Derived.Test.YtdhphipdpjhhbaaGreatDoorPrintF
import Derived.Test.YtdhphipdpjhhbaaGreatDoorRecord2
namespace Go.Proofs.YtdhphipdpjhhbaaGreatDoor
open Go.RowKit

theorem cutFeed_calls (s : ByteArray) (w : World) (hs : s.size ≤ 1048576) (hstd : Std w) :
    Calls Tryz.prog 43 #[.string s, .string ⟨#[10]⟩] w fun e w' => ∃ a b : ByteArray, e = .returned (.tuple #[.string a, .string b, .bool (hasB 10 s.data.toList)]) ∧ a.data.toList = headB 10 s.data.toList ∧ b.data.toList = tailB 10 s.data.toList ∧ Below w.heap.size w w' := by
  obtain ⟨m, hm⟩ := hstd.most
  refine (Tryz.strings_Cut s ⟨#[10]⟩ m w (by omega) hm).mono ?_
  rintro e w' ⟨rfl, n, rfl⟩
  have hc : Lib.cut s.data.toList [10] = (headB 10 s.data.toList, tailB 10 s.data.toList, hasB 10 s.data.toList) := by
    unfold Lib.cut hasB
    by_cases h : (10 : UInt8) ∈ s.data.toList
    · rw [index_one 10 _ h, if_pos (by omega)]
      simp only [Int.toNat_natCast, List.length_singleton, take_headB h, drop_headB h, h, decide_true]
    · rw [index_one_none 10 _ h, if_neg (by decide), headB_not_mem h, tailB_not_mem h]
      simp [h]
  refine ⟨_, _, ?_, mk_list _, mk_list _, below_drewN (Below.refl _ _) n⟩
  show Ending.returned (.tuple #[.string ⟨(Lib.cut s.data.toList [10]).1.toArray⟩, .string ⟨(Lib.cut s.data.toList [10]).2.1.toArray⟩, .bool (Lib.cut s.data.toList [10]).2.2]) = _
  rw [hc]
theorem takeFirst_calls (v : Value) (s : ByteArray) (w : World) :
    Calls Tryz.prog 44 #[v, .string s, .int .i64 1] w fun e w' => e = .returned (.bool (decide (s.data.toList = headT))) ∧ w' = w := by
  go_enter Tryz.func44, Tryz.ntmps44
  go_wp2
  go_ret
  refine ⟨ret_bool ?_, rfl⟩
  rw [ByteArray.toList_eq, Bool.eq_iff_iff, beq_iff_eq, decide_eq_true_eq]
  exact Iff.rfl

set_option maxRecDepth 20000 in
set_option maxHeartbeats 2000000 in
theorem parseNone_calls (w : World) (hstd : Std w) :
    Calls Tryz.prog 21 #[.string ⟨#[]⟩] w fun e w' => e = .returned (.tuple #[.slice none 0 0, .slice none 0 0, .slice none 0 0, .int .i64 1, .int .i64 50]) ∧ Below w.heap.size w w' := by
  have HStd : Hid (∀ W, Below w.heap.size w W → Std W) := fun W hW => hstd.below hW
  clear hstd
  go_enter Tryz.func21, Tryz.ntmps21
  go_wp2_with fail
  generalize hwx : w.alloc (.cells #[.slice none 0 0, .slice none 0 0] 78) = wx
  have HX : Hid (Below w.heap.size w wx) := by subst hwx; exact below_new _ _
  clear hwx
  go_loopw [0, 8, 9] (fun t n m wr => t = .string ⟨#[]⟩ ∧ n = .int .i64 0 ∧ m = .bool true ∧ Below w.heap.size w wr) (fun _ _ _ _ => 0)
  case atStart => exact ⟨rfl, rfl, rfl, HX.out⟩
  case round =>
    obtain ⟨rfl, rfl, rfl, hb⟩ := hrel
    have HB : Hid (Below w.heap.size w wr) := hb
    clear hb HX
    go_wp2_with fail
    refine (cutFeed_calls ⟨#[]⟩ _ (by decide) (HStd.out _ HB.out)).mono ?_
    rintro e w1 ⟨a, b, rfl, ha, hb, hb1⟩
    have HB1 : Hid (Below w.heap.size w w1) := HB.out.trans (hb1.mono HB.out.size)
    have hla : a = ⟨#[]⟩ := byte_ext ha
    subst hla
    clear hb1 ha hb
    have HT1 : Hid (∀ v W, Calls Tryz.prog 44 #[v, .string ⟨#[]⟩, .int .i64 1] W fun e w' => e = .returned (.bool false) ∧ w' = W) := fun v W => by
      have := takeFirst_calls v ⟨#[]⟩ W
      rwa [show decide ((⟨#[]⟩ : ByteArray).data.toList = headT) = false from by decide] at this
    go_wp2_with (go_at_call 44; refine (HT1.out _ _).mono ?_; rintro e w' ⟨rfl, rfl⟩)
    refine bodyPost_ret (v := .tuple #[.slice none 0 0, .slice none 0 0, .slice none 0 0, .int .i64 1, .int .i64 50]) (by simp [results, Tryz.results21, go_sem]) rfl ⟨rfl, HB1.out⟩

/-! The chapter's first example -/
def awR : Rec := ⟨[114], true, [99], 3, [(83, 1), (77, 2)], [65, 67, 71], [73, 73, 73], -4⟩
def awP : Rec := mkPlain [114] [65, 67, 71] [73, 73, 73]
def awT : List UInt8 := [114, 9, 48, 9, 99, 9, 51, 9, 50, 53, 53, 9, 49, 83, 50, 77, 9, 42, 9, 48, 9, 48, 9, 65, 67, 71, 9, 73, 73, 73, 9, 65, 83, 58, 105, 58, 45, 52]
theorem aw_right : rightR awR = true := by decide
theorem aw_text : (textA awR.runs).1 = [49, 83, 50, 77] := by
  rw [textA, if_pos (by decide)]
  simp [awR, textB, Lib.decDigits_one]
theorem aw_pos : Lib.itoa 3 = [51] := by
  rw [show (3 : Int) = ((3 : Nat) : Int) from rfl, Lib.itoa_nonneg]; simp [Lib.decDigits_one]
theorem aw_score : Lib.itoa (-4) = [45, 52] := by
  rw [show (-4 : Int) = -((4 : Nat) : Int) from rfl, Lib.itoa_neg 4 (by decide)]; simp [Lib.decDigits_one]
theorem aw_five : Lib.itoa 5 = [53] := by
  rw [show (5 : Int) = ((5 : Nat) : Int) from rfl, Lib.itoa_nonneg]; simp [Lib.decDigits_one]
theorem aw_line : lineR awR = awT := by
  have e : fieldsF awR = [[114], [48], [99], Lib.itoa 3, [50, 53, 53], (textA awR.runs).1, [42], [48], [48], [65, 67, 71], [73, 73, 73], scoreT (-4)] := by rfl
  unfold lineR tabs
  rw [e, aw_pos, aw_text, scoreT, aw_score]
  rfl
theorem aw_lineA : lineA awR = (awT, 0) := by rw [lineA, aw_right, ← aw_line]; rfl
theorem aw_plain : recA [114, 9, 52, 9, 42, 9, 48, 9, 48, 9, 42, 9, 42, 9, 48, 9, 48, 9, 65, 67, 71, 9, 73, 73, 73] = (awP, 0) := recA_some (recB_of (by decide) ⟨by decide, by decide⟩ (by rfl))
def awQ : Sqp := ([99], [], [65, 67, 71, 84, 65])
def awF : List UInt8 := [64, 72, 68, 9, 86, 78, 58, 49, 46, 54, 9, 83, 79, 58, 117, 110, 115, 111, 114, 116, 101, 100, 10, 64, 83, 81, 9, 83, 78, 58, 99, 9, 76, 78, 58, 53, 10] ++ awT ++ [10]
theorem aw_know : knowB [awQ] = some [([99], 5)] := by rfl
theorem aw_fit : allFit [([99], 5)] [awR] = true := by decide
theorem aw_refLine : refLine ([99], 5) = [64, 83, 81, 9, 83, 78, 58, 99, 9, 76, 78, 58, 53] := by
  unfold refLine; rw [aw_five]; rfl
theorem aw_file : fileB ([([99], 5)], [awR]) = awF := by
  unfold fileB
  simp only [List.flatMap_cons, List.flatMap_nil, aw_refLine, aw_line]
  rfl
theorem aw_print : printF [awQ] [awR] = (awF, 0) := by
  rw [printF, if_neg (by decide), aw_know]
  simp only [aw_fit, Bool.true_eq_false, if_false, aw_file]
  rw [if_neg (by decide)]

set_option maxRecDepth 20000 in
set_option maxHeartbeats 4000000 in
theorem awake_calls (w : World) (hstd : Std w) :
    Calls Tryz.prog 10 #[] w fun e w' => e = .returned (.bool true) ∧ Below w.heap.size w w' := by
  have HStd : Hid (∀ W, Below w.heap.size w W → Std W) := fun W hW => hstd.below hW
  clear hstd
  go_enter Tryz.func10, Tryz.ntmps10
  go_wp2_with fail
  have hJ0 : Below w.heap.size w ((w.alloc (.cells #[.int .u8 83, .int .i64 1, .int .u8 77, .int .i64 2] 37)).alloc (.cells #[.string ⟨#[114]⟩, .bool true, .string ⟨#[99]⟩, .int .i64 3, .slice (some ⟨w.heap.size, 0, none⟩) 2 2, .string ⟨#[65, 67, 71]⟩, .string ⟨#[73, 73, 73]⟩, .int .i64 (-4)] 24)) ∧ ((w.alloc (.cells #[.int .u8 83, .int .i64 1, .int .u8 77, .int .i64 2] 37)).alloc (.cells #[.string ⟨#[114]⟩, .bool true, .string ⟨#[99]⟩, .int .i64 3, .slice (some ⟨w.heap.size, 0, none⟩) 2 2, .string ⟨#[65, 67, 71]⟩, .string ⟨#[73, 73, 73]⟩, .int .i64 (-4)] 24)).heap[w.heap.size]? = some (.cells #[.int .u8 83, .int .i64 1, .int .u8 77, .int .i64 2] 37 (0, 0)) ∧ ((w.alloc (.cells #[.int .u8 83, .int .i64 1, .int .u8 77, .int .i64 2] 37)).alloc (.cells #[.string ⟨#[114]⟩, .bool true, .string ⟨#[99]⟩, .int .i64 3, .slice (some ⟨w.heap.size, 0, none⟩) 2 2, .string ⟨#[65, 67, 71]⟩, .string ⟨#[73, 73, 73]⟩, .int .i64 (-4)] 24)).heap[w.heap.size + 1]? = some (.cells #[.string ⟨#[114]⟩, .bool true, .string ⟨#[99]⟩, .int .i64 3, .slice (some ⟨w.heap.size, 0, none⟩) 2 2, .string ⟨#[65, 67, 71]⟩, .string ⟨#[73, 73, 73]⟩, .int .i64 (-4)] 24 (0, 0)) := by
    obtain ⟨q1, q2, q3⟩ := alloc2_heap w (.cells #[.int .u8 83, .int .i64 1, .int .u8 77, .int .i64 2] 37) (.cells #[.string ⟨#[114]⟩, .bool true, .string ⟨#[99]⟩, .int .i64 3, .slice (some ⟨w.heap.size, 0, none⟩) 2 2, .string ⟨#[65, 67, 71]⟩, .string ⟨#[73, 73, 73]⟩, .int .i64 (-4)] 24)
    exact ⟨q3, q1, q2⟩
  have HRec : Hid (∀ W : World, W.heap[w.heap.size]? = some (.cells #[.int .u8 83, .int .i64 1, .int .u8 77, .int .i64 2] 37 (0, 0)) → RecOk W ⟨⟨#[114]⟩, true, ⟨#[99]⟩, 3, some ⟨w.heap.size, 0, none⟩, 2, 2, ⟨#[65, 67, 71]⟩, ⟨#[73, 73, 73]⟩, -4⟩ awR.runs) := by
    intro W hW
    refine ⟨show (⟨#[114]⟩ : ByteArray).size ≤ maxLen by decide, show (⟨#[99]⟩ : ByteArray).size ≤ maxLen by decide, show (⟨#[65, 67, 71]⟩ : ByteArray).size ≤ maxLen by decide, show (⟨#[73, 73, 73]⟩ : ByteArray).size ≤ maxLen by decide, show fitI 3 from ⟨by decide, by decide⟩, show fitI (-4) from ⟨by decide, by decide⟩, ⟨rfl, show 2 ≤ maxLen by decide, ?_, fun _ => ⟨w.heap.size, 0, rfl, ?_⟩⟩⟩
    · intro r hr; simp [awR] at hr; rcases hr with rfl | rfl <;> exact ⟨by decide, by decide⟩
    · intro i r hr
      match i, hr with
      | 0, hr => simp [awR] at hr; subst hr; exact ⟨cellB hW rfl, cellB hW rfl⟩
      | 1, hr => simp [awR] at hr; subst hr; exact ⟨cellB hW rfl, cellB hW rfl⟩
  have HLn : Hid (∀ W, Below w.heap.size w W → W.heap[w.heap.size]? = some (.cells #[.int .u8 83, .int .i64 1, .int .u8 77, .int .i64 2] 37 (0, 0)) → Calls Tryz.prog 12 #[.agg #[.string ⟨#[114]⟩, .bool true, .string ⟨#[99]⟩, .int .i64 3, .slice (some ⟨w.heap.size, 0, none⟩) 2 2, .string ⟨#[65, 67, 71]⟩, .string ⟨#[73, 73, 73]⟩, .int .i64 (-4)]] W fun e w' => TextPost (awT, 0) W e w') := by
    intro W hW hg
    have := line_calls ⟨⟨#[114]⟩, true, ⟨#[99]⟩, 3, some ⟨w.heap.size, 0, none⟩, 2, 2, ⟨#[65, 67, 71]⟩, ⟨#[73, 73, 73]⟩, -4⟩ awR.runs W (HRec.out W hg) (HStd.out W hW)
    rw [show RV.R ⟨⟨#[114]⟩, true, ⟨#[99]⟩, 3, some ⟨w.heap.size, 0, none⟩, 2, 2, ⟨#[65, 67, 71]⟩, ⟨#[73, 73, 73]⟩, -4⟩ awR.runs = awR from rfl, aw_lineA] at this
    exact this
  have HPr : Hid (∀ W g1 g2, Below w.heap.size w W → W.heap[w.heap.size]? = some (.cells #[.int .u8 83, .int .i64 1, .int .u8 77, .int .i64 2] 37 (0, 0)) → W.heap[g1]? = some (.cells #[.string ⟨#[99]⟩, .string ⟨#[]⟩, .string ⟨#[65, 67, 71, 84, 65]⟩] 42 (0, 0)) → W.heap[g2]? = some (.cells #[.string ⟨#[114]⟩, .bool true, .string ⟨#[99]⟩, .int .i64 3, .slice (some ⟨w.heap.size, 0, none⟩) 2 2, .string ⟨#[65, 67, 71]⟩, .string ⟨#[73, 73, 73]⟩, .int .i64 (-4)] 24 (0, 0)) → Calls Tryz.prog 19 #[.slice (some ⟨g1, 0, none⟩) 1 1, .slice (some ⟨g2, 0, none⟩) 1 1] W fun e w' => TextPost (awF, 0) W e w') := by
    intro W g1 g2 hW hg h1 h2
    have := printFile_calls (some ⟨g1, 0, none⟩) 1 1 [(⟨#[99]⟩, ⟨#[]⟩, ⟨#[65, 67, 71, 84, 65]⟩)] (some ⟨g2, 0, none⟩) 1 1 [(⟨⟨#[114]⟩, true, ⟨#[99]⟩, 3, some ⟨w.heap.size, 0, none⟩, 2, 2, ⟨#[65, 67, 71]⟩, ⟨#[73, 73, 73]⟩, -4⟩, awR.runs)] W
      ⟨rfl, by decide, by intro q hq; simp at hq; subst hq; exact ⟨by decide, by decide, by decide⟩, fun _ => ⟨g1, 0, rfl, fun i q hq => by
        match i, hq with
        | 0, hq => simp at hq; subst hq; exact ⟨cellB h1 rfl, cellB h1 rfl, cellB h1 rfl⟩⟩⟩
      ⟨rfl, by decide, by intro q hq; simp at hq; subst hq; exact HRec.out W hg, fun _ => ⟨g2, 0, rfl, fun i q hq => by
        match i, hq with
        | 0, hq => simp at hq; subst hq; exact ⟨cellB h2 rfl, cellB h2 rfl, cellB h2 rfl, cellB h2 rfl, cellB h2 rfl, cellB h2 rfl, cellB h2 rfl, cellB h2 rfl⟩⟩⟩
      (HStd.out W hW)
    rw [show [((⟨#[99]⟩, ⟨#[]⟩, ⟨#[65, 67, 71, 84, 65]⟩) : Sq)].map Sq.P = [awQ] from rfl, show [((⟨⟨#[114]⟩, true, ⟨#[99]⟩, 3, some ⟨w.heap.size, 0, none⟩, 2, 2, ⟨#[65, 67, 71]⟩, ⟨#[73, 73, 73]⟩, -4⟩, awR.runs) : Rl)].map Rl.R = [awR] from rfl, aw_print] at this
    exact this
  refine (HLn.out _ hJ0.1 hJ0.2.1).mono ?_
  rintro e w1 ⟨t, rfl, ht, hb1⟩
  have hJ1 : Below w.heap.size w w1 ∧ w1.heap[w.heap.size]? = some (.cells #[.int .u8 83, .int .i64 1, .int .u8 77, .int .i64 2] 37 (0, 0)) ∧ w1.heap[w.heap.size + 1]? = some (.cells #[.string ⟨#[114]⟩, .bool true, .string ⟨#[99]⟩, .int .i64 3, .slice (some ⟨w.heap.size, 0, none⟩) 2 2, .string ⟨#[65, 67, 71]⟩, .string ⟨#[73, 73, 73]⟩, .int .i64 (-4)] 24 (0, 0)) := ⟨hJ0.1.trans (hb1.mono hJ0.1.size), keepB hJ0.2.1 hb1, keepB hJ0.2.2 hb1⟩
  have HJ1 : Hid (Below w.heap.size w w1 ∧ w1.heap[w.heap.size]? = some (.cells #[.int .u8 83, .int .i64 1, .int .u8 77, .int .i64 2] 37 (0, 0)) ∧ w1.heap[w.heap.size + 1]? = some (.cells #[.string ⟨#[114]⟩, .bool true, .string ⟨#[99]⟩, .int .i64 3, .slice (some ⟨w.heap.size, 0, none⟩) 2 2, .string ⟨#[65, 67, 71]⟩, .string ⟨#[73, 73, 73]⟩, .int .i64 (-4)] 24 (0, 0))) := hJ1
  have hts : t.toList = awT := by rw [ByteArray.toList_eq]; exact ht
  have htz : t.size = 38 := by rw [← size_toList, ht]; rfl
  clear hb1 hJ0 HLn ht
  have c0 : ∀ o, (w1.alloc o).cell? ⟨w.heap.size + 1, 0, none⟩ = some (.string ⟨#[114]⟩) := fun o => cellB (keepB hJ1.2.2 (below_new w1 o)) rfl
  have c1 : ∀ o, (w1.alloc o).cell? ⟨w.heap.size + 1, 1, none⟩ = some (.bool true) := fun o => cellB (keepB hJ1.2.2 (below_new w1 o)) rfl
  have c2 : ∀ o, (w1.alloc o).cell? ⟨w.heap.size + 1, 2, none⟩ = some (.string ⟨#[99]⟩) := fun o => cellB (keepB hJ1.2.2 (below_new w1 o)) rfl
  have c3 : ∀ o, (w1.alloc o).cell? ⟨w.heap.size + 1, 3, none⟩ = some (.int .i64 3) := fun o => cellB (keepB hJ1.2.2 (below_new w1 o)) rfl
  have c4 : ∀ o, (w1.alloc o).cell? ⟨w.heap.size + 1, 4, none⟩ = some (.slice (some ⟨w.heap.size, 0, none⟩) 2 2) := fun o => cellB (keepB hJ1.2.2 (below_new w1 o)) rfl
  have c5 : ∀ o, (w1.alloc o).cell? ⟨w.heap.size + 1, 5, none⟩ = some (.string ⟨#[65, 67, 71]⟩) := fun o => cellB (keepB hJ1.2.2 (below_new w1 o)) rfl
  have c6 : ∀ o, (w1.alloc o).cell? ⟨w.heap.size + 1, 6, none⟩ = some (.string ⟨#[73, 73, 73]⟩) := fun o => cellB (keepB hJ1.2.2 (below_new w1 o)) rfl
  have c7 : ∀ o, (w1.alloc o).cell? ⟨w.heap.size + 1, 7, none⟩ = some (.int .i64 (-4)) := fun o => cellB (keepB hJ1.2.2 (below_new w1 o)) rfl
  clear hJ1
  go_wp2_with fail
  obtain ⟨p1, p2, p3⟩ := alloc2_heap w1 (.cells #[.string ⟨#[99]⟩, .string ⟨#[]⟩, .string ⟨#[65, 67, 71, 84, 65]⟩] 42) (.cells #[.string ⟨#[114]⟩, .bool true, .string ⟨#[99]⟩, .int .i64 3, .slice (some ⟨w.heap.size, 0, none⟩) 2 2, .string ⟨#[65, 67, 71]⟩, .string ⟨#[73, 73, 73]⟩, .int .i64 (-4)] 24)
  have HB1 : Hid (Below w.heap.size w ((w1.alloc (.cells #[.string ⟨#[99]⟩, .string ⟨#[]⟩, .string ⟨#[65, 67, 71, 84, 65]⟩] 42)).alloc (.cells #[.string ⟨#[114]⟩, .bool true, .string ⟨#[99]⟩, .int .i64 3, .slice (some ⟨w.heap.size, 0, none⟩) 2 2, .string ⟨#[65, 67, 71]⟩, .string ⟨#[73, 73, 73]⟩, .int .i64 (-4)] 24))) := HJ1.out.1.trans (p3.mono HJ1.out.1.size)
  refine (HPr.out _ w1.heap.size (w1.heap.size + 1) HB1.out (keepB HJ1.out.2.1 p3) p1 p2).mono ?_
  rintro e w2 ⟨u, rfl, hu, hb2⟩
  have HB2 : Hid (Below w.heap.size w w2) := HB1.out.trans (hb2.mono HB1.out.size)
  have HU : Hid (u.data.toList = awF) := hu
  clear hb2 hu HPr HB1 HJ1 c0 c1 c2 c3 c4 c5 c6 c7 p1 p2 p3 HRec
  have HRd : Hid (Calls Tryz.prog 15 #[.string ⟨#[114, 9, 52, 9, 42, 9, 48, 9, 48, 9, 42, 9, 42, 9, 48, 9, 48, 9, 65, 67, 71, 9, 73, 73, 73]⟩] w2 fun e w' => RecPost (awP, 0) w2 e w') := by
    have := record_calls ⟨#[114, 9, 52, 9, 42, 9, 48, 9, 48, 9, 42, 9, 42, 9, 48, 9, 48, 9, 65, 67, 71, 9, 73, 73, 73]⟩ w2 (by decide) (HStd.out w2 HB2.out)
    rw [show (⟨#[114, 9, 52, 9, 42, 9, 48, 9, 48, 9, 42, 9, 42, 9, 48, 9, 48, 9, 65, 67, 71, 9, 73, 73, 73]⟩ : ByteArray).data.toList = [114, 9, 52, 9, 42, 9, 48, 9, 48, 9, 42, 9, 42, 9, 48, 9, 48, 9, 65, 67, 71, 9, 73, 73, 73] from rfl, aw_plain] at this
    exact this
  go_wp2_with fail
  refine HRd.out.mono ?_
  rintro e w3 ⟨v, rfl, hvR, hown, hb3⟩
  obtain ⟨nm, m, rf, p, ao, len, cap, b, q, sc⟩ := v
  have hnm : nm = ⟨#[114]⟩ := byte_ext (congrArg Rec.name hvR)
  have hm : m = false := congrArg Rec.mapped hvR
  subst hnm hm
  have HB3 : Hid (∀ o, Below w.heap.size w (w3.alloc o)) := fun o => by
    have h := HB2.out.trans (hb3.mono HB2.out.size)
    exact h.alloc h.size o
  have HBx : Hid (∀ o, (w3.alloc o).heap[w3.heap.size]? = some o) := fun o => heap_alloc_new w3 o
  clear hvR hown hb3 HRd HB2
  go_wp2_with fail
  refine (parseNone_calls _ (HStd.out _ (HB3.out _))).mono ?_
  rintro e w4 ⟨rfl, hb4⟩
  have HB4 : Hid (Below w.heap.size w w4) := (HB3.out _).trans (hb4.mono (HB3.out _).size)
  have hg4 := keepB (HBx.out _) hb4
  have d0 := cellB hg4 (i := 0) rfl
  have d1 := cellB hg4 (i := 1) rfl
  obtain ⟨s1, hs1, hc1⟩ : ∃ s1 : ByteArray, s1 = ⟨#[64, 72, 68, 9, 86, 78, 58, 49, 46, 54, 9, 83, 79, 58, 117, 110, 115, 111, 114, 116, 101, 100, 10, 64, 83, 81, 9, 83, 78, 58, 99, 9, 76, 78, 58, 53, 10]⟩ ++ t ∧ ∀ W, (Op.stringOp .add ⟨#[64, 72, 68, 9, 86, 78, 58, 49, 46, 54, 9, 83, 79, 58, 117, 110, 115, 111, 114, 116, 101, 100, 10, 64, 83, 81, 9, 83, 78, 58, 99, 9, 76, 78, 58, 53, 10]⟩ t).run Tryz.prog W = .ok (.string s1) W := ⟨_, rfl, fun W => run_string_add_sum W _ _ (by show 37 + t.size ≤ _; omega)⟩
  have hz1 : s1.size = 75 := by rw [hs1, ← size_toList, ba_append, List.length_append, size_toList]; show 37 + _ = _; rw [size_toList]; omega
  obtain ⟨s2, hs2, hc2⟩ : ∃ s2 : ByteArray, s2 = s1 ++ ⟨#[10]⟩ ∧ ∀ W, (Op.stringOp .add s1 ⟨#[10]⟩).run Tryz.prog W = .ok (.string s2) W := ⟨_, rfl, fun W => run_string_add_sum W _ _ (by show s1.size + 1 ≤ _; omega)⟩
  have hus : (u.toList == s2.toList) = true := by
    rw [ByteArray.toList_eq, ByteArray.toList_eq, HU.out, hs2, ba_append, hs1, ba_append]
    rw [ByteArray.toList_eq] at hts
    rw [hts]; rfl
  have htl : (t.toList == [114, 9, 48, 9, 99, 9, 51, 9, 50, 53, 53, 9, 49, 83, 50, 77, 9, 42, 9, 48, 9, 48, 9, 65, 67, 71, 9, 73, 73, 73, 9, 65, 83, 58, 105, 58, 45, 52]) = true := by rw [hts]; rfl
  have htl2 : t.toList = [114, 9, 48, 9, 99, 9, 51, 9, 50, 53, 53, 9, 49, 83, 50, 77, 9, 42, 9, 48, 9, 48, 9, 65, 67, 71, 9, 73, 73, 73, 9, 65, 83, 58, 105, 58, 45, 52] := hts
  clear hb4 HB3 HBx hg4 hs1 hs2 hts HU
  go_wp2
  go_ret
  exact ⟨rfl, HB4.out⟩
end Go.Proofs.YtdhphipdpjhhbaaGreatDoor
