/-
  A tree is written: Print. One of the chapter's examples; an expression is written. An expression is written: Expr.
-/
import Derived.Test.YtpeldiibjhffiaaDoorG32
import Derived.Test.YtpeldiibjhffiaaDoorDeep
import Derived.Test.YtpeldiibjhffiaaDoorG19
import Derived.Test.YtpeldiibjhffiaaDoorRTr
namespace Go.Proofs.YtpeldiibjhffiaaDoor
open Go.RowKit Go.Deep

theorem rgt_hds : ∀ (F : Fo) (d : Nat), rgtF d F = true → hdsR F = true ∧ depF F ≤ d
  | .nil, _, _ => ⟨rfl, Nat.zero_le _⟩
  | .node _ _ h k r, d, hh => by
    simp only [rgtF, Bool.and_eq_true, decide_eq_true_eq] at hh
    have h1 := rgt_hds k (d - 1) hh.2.2.1
    have h2 := rgt_hds r d hh.2.2.2
    simp only [hdsR, depF, Bool.and_eq_true]
    exact ⟨⟨hh.2.1, h1.1, h2.1⟩, by omega⟩
theorem it_facts {i : It} (h : itRight i = true) : (bs i.name).size ≤ 100 ∧ hdsR i.args = true ∧ depF i.args ≤ 32 := by
  have he : (bs ([] : List UInt8)).size ≤ 100 := by decide
  unfold itRight at h
  split at h
  · simp only [Bool.and_eq_true, decide_eq_true_eq] at h
    exact ⟨name_small h.1, rgt_hds _ _ h.2.2⟩
  split at h
  · simp only [Bool.and_eq_true, decide_eq_true_eq] at h
    have hn : i.args = .nil := by
      cases ha : i.args with
      | nil => rfl
      | node a b c d e => rw [ha] at h; simp [lenF] at h
    rw [hn]
    exact ⟨way_small h.1, rfl, by simp [depF]⟩
  split at h
  · simp only [Bool.and_eq_true, decide_eq_true_eq] at h
    rw [h.1]
    exact ⟨he, rgt_hds _ _ h.2.2⟩
  split at h
  · simp only [Bool.and_eq_true, decide_eq_true_eq] at h
    rw [h.1]
    exact ⟨he, rgt_hds _ _ h.2.2⟩
  · cases h
theorem itB_ne (i : It) : itB i ≠ [] := by
  unfold itB
  intro h
  have := congrArg List.length h
  simp at this
theorem sign_small (k : Int) : (bs (signI k)).size ≤ 100 := by
  unfold signI
  split <;> decide
/-- An item is laid down, whatever was laid down before. -/
theorem layIt {w0 : World} {b : Nat} {o : Bool} {S : Nat → Prop} (htab : TabOk w0) (i : It) (ka : Option Addr) (kn kc : Nat) (hF : FoAt o S w0 i.args ka kn) (hn : kn ≤ maxLen) (hR : itRight i = true) (T : List UInt8) (w : World) (hS : Sh w0 b T w) (hT : T.length ≤ 4000) :
    Calls Tryd.prog 17 #[.agg #[.int .i64 i.kind, .string (bs i.name), .slice ka kn kc, .int .i64 i.pl], layV b] w (LPost w0 b T (itB i) w) := by
  obtain ⟨h1, h2, h3⟩ := it_facts hR
  refine layItem_calls i ka kn kc h1 (fun T w q1 q2 => ?_) T w hS hT
  have := layAll_calls (w0 := w0) (b := b) (o := o) (S := S) (szF i.args + 1) (fun e ka kn kc a1 a2 a3 => layExpr_calls htab _ e ka kn kc a1 a2 a3) (bs (signI i.kind)) (sign_small _) i.args ka kn kc hF hn (by omega) h2 T w q1 q2
  rw [bs_data] at this
  exact this
set_option maxRecDepth 20000 in
set_option maxHeartbeats 4000000 in
theorem print_calls {o : Bool} {S : Nat → Prop} (L : List It) (ao : Option Addr) (n c : Nat) (w : World) (hF : ItsAt o S w L ao n) (hn : n ≤ maxLen) (htab : TabOk w) :
    Calls Tryd.prog 8 #[.agg #[.slice ao n c]] w fun e w' => TextPost (printB L) w e w' := by

  have hmf : ∀ (fn : Fn) (first cap : Array Value) (w : World), (Instr.makeFunc fn first cap).run Tryd.prog w = .ok (.func fn first cap) w := fun _ _ _ _ => rfl
  have hb0 : Below w.heap.size w (w.alloc (.cells #[.slice ao n c] 24)) := low_alloc _ _
  have HRt : Hid (Calls Tryd.prog 11 #[.agg #[.slice ao n c]] (w.alloc (.cells #[.slice ao n c] 24)) fun e' w' => e' = .returned (.bool (treeRight L)) ∧ Below (w.alloc (.cells #[.slice ao n c] 24)).heap.size (w.alloc (.cells #[.slice ao n c] 24)) w') := right_calls L ao n c _ (hF.below hb0) hn
  have H0 : Hid (Below w.heap.size w (w.alloc (.cells #[.slice ao n c] 24)) ∧ (w.alloc (.cells #[.slice ao n c] 24)).heap[w.heap.size]? = some (.cells #[.slice ao n c] 24 (0, 0))) := ⟨hb0, heap_alloc_new w _⟩
  have HF : Hid (ItsAt o S w L ao n ∧ TabOk w) := ⟨hF, htab⟩
  have HP : Hid (printB L = if treeRight L then (if (treeB L).length ≤ 4000 then (treeB L, 0) else ([], 2)) else ([], 80)) := rfl
  have hn2 := hn
  unfold maxLen at hn2
  clear hF hb0 htab
  cases hr : treeRight L with
  | false =>
    have HE : Hid (printB L = ([], 80)) := by have := HP.out; rw [hr, if_neg (by decide)] at this; exact this
    rw [hr] at HRt
    generalize printB L = A at *
    clear hr HP
    go_enter Tryd.func8, Tryd.ntmps8
    go_wp2_with fail
    refine HRt.out.mono ?_
    rintro e w2 ⟨rfl, hb2⟩
    have HB : Hid (Below w.heap.size w w2) := H0.out.1.trans (hb2.mono H0.out.1.size)
    clear hb2 HRt
    go_wp2
    go_ret2
    exact text_post HE.out rfl HB.out
  | true =>
    rw [hr] at HRt
    have HRA : Hid (∀ i ∈ L, itRight i = true) := by
      unfold treeRight at hr
      simp only [Bool.and_eq_true, decide_eq_true_eq, List.all_eq_true] at hr
      exact hr.2
    have HP2 : Hid (printB L = if (treeB L).length ≤ 4000 then (treeB L, 0) else ([], 2)) := by have := HP.out; rw [hr, if_pos rfl] at this; exact this
    generalize printB L = A at *
    clear hr HP
    obtain ⟨g, off, hka, hF'⟩ := itsAt_addr HF.out.1
    have HF' : Hid (ItsAt o S w L (some ⟨g, off + 0 * 4, none⟩) (n - 0)) := hF'
    clear hF'
    go_enter Tryd.func8, Tryd.ntmps8
    go_wp2_with fail
    refine HRt.out.mono ?_
    rintro e w2 ⟨rfl, hb2⟩
    have hbx : w2.heap[w.heap.size]? = some (.cells #[.slice ao n c] 24 (0, 0)) := by rw [hb2.block _ (lt_block H0.out.2)]; exact H0.out.2
    have x0 : ∀ o, (w2.alloc o).cell? ⟨w.heap.size, 0, none⟩ = some (.slice ao n c) := fun o => blk (i := 0) (heap_old hbx) rfl
    have HB : Hid (Below w.heap.size w w2) := H0.out.1.trans (hb2.mono H0.out.1.size)
    have HS0 : Hid (Sh w2 w2.heap.size [] (w2.alloc (.cells #[.pointer none, .slice none 0 0] 51)) ∧ (w2.alloc (.cells #[.pointer none, .slice none 0 0] 51)).heap[w2.heap.size]? = some (.cells #[.pointer none, .slice none 0 0] 51 (0, 0))) := ⟨⟨Lib.fresh_isBuilder 51 5 w2, low_alloc _ _⟩, heap_alloc_new w2 _⟩
    have HF2 : Hid (ItsAt o S w2 L (some ⟨g, off + 0 * 4, none⟩) (n - 0) ∧ TabOk w2) := ⟨HF'.out.below HB.out, HF.out.2.below HB.out⟩
    clear hb2 HRt hbx H0 HF HF'
    go_wp2_with fail
    generalize w2.alloc (.cells #[.pointer none, .slice none 0 0] 51) = w3 at *
    clear x0
    go_loopg [13] n (fun k iv wr => ∃ (L' : List It) (i : Nat) (T : List UInt8), iv = .int .i64 (i : Int) ∧ i + k = n ∧ Hid (ItsAt o S w2 L' (some ⟨g, off + i * 4, none⟩) (n - i) ∧ (∀ i ∈ L', itRight i = true) ∧ T ++ treeB L' = treeB L) ∧ Hid (Sh w2 w2.heap.size T wr ∧ T.length ≤ 4000 ∧ (T = [] → wr.heap[w2.heap.size]? = some (.cells #[.pointer none, .slice none 0 0] 51 (0, 0)))))
    case atStart => exact ⟨L, 0, [], rfl, by omega, ⟨HF2.out.1, HRA.out, rfl⟩, HS0.out.1, by simp, fun _ => HS0.out.2⟩
    case round =>
      clear HS0
      obtain ⟨L', i, T, rfl, hik, HG, HT⟩ := hrel
      by_cases hi : i < n
      · have hdi : decide ((i : Int) < (n : Int)) = true := by simp; omega
        obtain ⟨it, r9, ka, kc, kk, rfl, -, hok, hkc, ⟨c0, c1, c2, c3⟩, hk2, hr2⟩ := itsAt_head HG.out.1 hi
        have hka2 := hka (by omega)
        subst hka2
        have HLi : Hid (Calls Tryd.prog 17 #[.agg #[.int .i64 it.kind, .string (bs it.name), .slice ka kc kk, .int .i64 it.pl], layV w2.heap.size] (wr.alloc (.cells #[.int .i64 it.kind, .string (bs it.name), .slice ka kc kk, .int .i64 it.pl] 37)) (LPost w2 w2.heap.size T (itB it) (wr.alloc (.cells #[.int .i64 it.kind, .string (bs it.name), .slice ka kc kk, .int .i64 it.pl] 37)))) := layIt HF2.out.2 it ka kc kk hk2 hkc (HG.out.2.1 it (by simp)) T _ (HT.out.1.next (low_alloc _ _)) HT.out.2.1
        have HNx : Hid (ItsAt o S w2 r9 (some ⟨g, off + (i + 1) * 4, none⟩) (n - (i + 1)) ∧ (∀ i ∈ r9, itRight i = true) ∧ (T ++ itB it) ++ treeB r9 = treeB L) := ⟨hr2, fun j hj => HG.out.2.1 j (by simp [hj]), by rw [List.append_assoc]; exact HG.out.2.2⟩
        have x0 := keepc HT.out.1.low c0
        have x1 := keepc HT.out.1.low c1
        have x2 := keepc HT.out.1.low c2
        have x3 := keepc HT.out.1.low c3
        clear HG HT hok hkc hk2 hr2 c0 c1 c2 c3
        go_wp2_with fail
        refine HLi.out.mono ?_
        rintro e w4 ⟨z, rfl, hb4, hk4, ht4, hf4⟩
        clear x0 x1 x2 x3
        cases z with
        | false =>
          have HE : Hid (A = ([], 2)) := by
            have h1 := HP2.out
            have h2 := hf4 rfl
            have h3 := congrArg List.length HNx.out.2.2
            simp only [List.length_append] at h2 h3
            rw [if_neg (by omega)] at h1
            exact h1
          have HB4 : Hid (Below w.heap.size w w4) := HB.out.trans (hb4.mono HB.out.size)
          clear hb4 hk4 ht4 hf4
          go_wp2
          go_ret2
          exact text_post HE.out rfl HB4.out
        | true =>
          obtain ⟨hS4, hT4⟩ := ht4 rfl
          have HT4 : Hid (Sh w2 w2.heap.size (T ++ itB it) w4 ∧ (T ++ itB it).length ≤ 4000 ∧ (T ++ itB it = [] → w4.heap[w2.heap.size]? = some (.cells #[.pointer none, .slice none 0 0] 51 (0, 0)))) := ⟨hS4, hT4, fun e => absurd (List.append_eq_nil_iff.1 e).2 (itB_ne it)⟩
          clear hb4 hk4 ht4 hf4 hS4 hT4
          go_wp2_with fail
          go_roundg (gk - 1)
          case measure => omega
          case rel => exact ⟨r9, i + 1, T ++ itB it, by go_num, by omega, HNx.out, HT4.out⟩
      · have hdi : decide ((i : Int) < (n : Int)) = false := by simp; omega
        have HX : Hid (T = treeB L) := by
          obtain ⟨h1, _, h3⟩ := HG.out
          rw [show n - i = 0 by omega] at h1
          have h4 := itsAt_end h1
          subst h4
          have h5 : T ++ [] = treeB L := h3
          rw [List.append_nil] at h5
          exact h5
        have HE : Hid (A = (T, 0)) := by
          have h1 := HP2.out
          rw [← HX.out, if_pos HT.out.2.1] at h1
          exact h1
        have HStr : Hid (Calls Tryd.prog 19 #[.pointer (some ⟨w2.heap.size, 0, none⟩)] wr fun e w' => e = .returned (.string ⟨T.toArray⟩) ∧ Below w.heap.size w w') := by
          have hbw : Below w.heap.size w wr := HB.out.trans (HT.out.1.low.mono HB.out.size)
          by_cases hT0 : T = []
          · refine (string_none w2.heap.size (.pointer none) wr (HT.out.2.2 hT0)).mono ?_
            rintro e w' ⟨rfl, hb⟩
            rw [hT0]
            exact ⟨rfl, hbw.trans (hb.mono hbw.size)⟩
          · refine (string_calls w2.heap.size w2.heap.size T wr HT.out.1.is hT0).mono ?_
            rintro e w' ⟨rfl, hb⟩
            exact ⟨rfl, hbw.trans (hb.mono HB.out.size)⟩
        clear HG HT HX HP2
        go_wp2_with fail
        refine HStr.out.mono ?_
        rintro e w5 ⟨rfl, hb5⟩
        have HB5 : Hid (Below w.heap.size w w5) := hb5
        clear hb5 HStr
        go_wp2
        go_ret2
        exact text_post HE.out rfl HB5.out

end Go.Proofs.YtpeldiibjhffiaaDoor
namespace Go.Proofs.YtpeldiibjhffiaaDoor
open Go.RowKit Go.Deep

theorem text_bs {A : List UInt8 × Int} {f : FuncId} {args : Array Value} {w : World} (h : Calls Tryd.prog f args w fun e w' => TextPost A w e w') : Calls Tryd.prog f args w fun e w' => e = .returned (.tuple #[.string (bs A.1), .int .i64 A.2]) ∧ Below w.heap.size w w' := by
  refine h.mono ?_
  rintro e w' ⟨t, rfl, ht, hb⟩
  have hT : t = bs A.1 := by
    apply ByteArray.ext
    apply Array.toList_inj.1
    rw [ht, bs_data]
  rw [hT]
  exact ⟨rfl, hb⟩
def aw8Sum : Ex := (⟨5, 0, [], 18⟩, ofL [(⟨1, 2, [], 17⟩, .nil), (⟨1, 3, [], 19⟩, .nil)])
def aw8Mul : Ex := (⟨7, 0, [], 15⟩, ofL [(⟨2, 0, [97], 14⟩, .nil), aw8Sum])
def aw8T : List It := [⟨1, [97], ofL [(⟨1, 1, [], 6⟩, .nil)], 0⟩, ⟨3, [], ofL [aw8Mul], 8⟩]
theorem aw81 : parseW [108, 101, 116, 32, 97, 61, 49, 59, 109, 97, 116, 99, 104, 32, 97, 42, 40, 50, 43, 51, 41, 59] = (aw8T, 0, 0) := by kernel_rfl
theorem dig_one {n : Nat} (h : n < 10) : Lib.decDigits n = [UInt8.ofNat (48 + n)] := by rw [Lib.decDigits, dif_pos h]
theorem aw82 : printB aw8T = ([108, 101, 116, 32, 97, 32, 61, 32, 49, 59, 10, 109, 97, 116, 99, 104, 32, 97, 32, 42, 32, 40, 50, 32, 43, 32, 51, 41, 59, 10], 0) := by
  have hr : treeRight aw8T = true := by kernel_rfl
  have ht : treeB aw8T = [108, 101, 116, 32, 97, 32, 61, 32, 49, 59, 10, 109, 97, 116, 99, 104, 32, 97, 32, 42, 32, 40, 50, 32, 43, 32, 51, 41, 59, 10] := by
    simp only [treeB, aw8T, aw8Mul, aw8Sum, ofL, nd, List.flatMap_cons, List.flatMap_nil, itB, headI, wordI, signI, txF, exB, allB, kt, brB, firmB, sgnB, List.getD_cons_zero, List.getD_cons_succ]
    simp [dig_one]
  unfold printB
  rw [hr, if_pos rfl, ht, if_pos (by decide)]
theorem aw83 : printB [⟨11, [], .nil, 0⟩] = ([], 80) := by kernel_rfl
theorem one11 (W : World) : ItsAt false (fun _ => True) (W.alloc (.cells #[.int .i64 11, .string ⟨#[]⟩, .slice none 0 0, .int .i64 0] 37)) [⟨11, [], .nil, 0⟩] (some ⟨W.heap.size, 0, none⟩) 1 := by
  refine ⟨W.heap.size, 0, none, 0, 0, 0, rfl, rfl, trivial, (fun e => by cases e), ⟨(by show InR 11; unfold InR; omega), (by show 0 ≤ _; omega), (by show InR 0; unfold InR; omega)⟩, Nat.zero_le _, fun i u hi => ?_, rfl, rfl⟩
  rw [cell_of_row _ _ _ _ _ _ (heap_alloc_new W _)]
  have h5 : [Value.int .i64 11, .string (bs []), .slice none 0 0, .int .i64 0][i]? = some u := hi
  rw [Nat.zero_add]
  have h6 : (#[Value.int .i64 11, .string (bs []), .slice none 0 0, .int .i64 0] : Array Value)[i]? = some u := by simpa using h5
  exact h6
set_option maxRecDepth 20000 in
set_option maxHeartbeats 4000000 in
theorem awake_calls (w : World) (htab : TabOk w) : Calls Tryd.prog 10 #[] w fun e w' => e = .returned (.bool true) ∧ Below w.heap.size w w' := by
  have HP1 : Hid (∀ w, Calls Tryd.prog 12 #[.string ⟨#[108, 101, 116, 32, 97, 61, 49, 59, 109, 97, 116, 99, 104, 32, 97, 42, 40, 50, 43, 51, 41, 59]⟩] w fun e w' => TreePost (aw8T, 0, 0) w e w') := fun w => by
    have := parse_calls ⟨#[108, 101, 116, 32, 97, 61, 49, 59, 109, 97, 116, 99, 104, 32, 97, 42, 40, 50, 43, 51, 41, 59]⟩ w
    rw [show (⟨#[108, 101, 116, 32, 97, 61, 49, 59, 109, 97, 116, 99, 104, 32, 97, 42, 40, 50, 43, 51, 41, 59]⟩ : ByteArray).data.toList = [108, 101, 116, 32, 97, 61, 49, 59, 109, 97, 116, 99, 104, 32, 97, 42, 40, 50, 43, 51, 41, 59] from rfl, aw81] at this
    exact this
  have HTab : Hid (TabOk w) := htab
  clear htab
  go_enter Tryd.func10, Tryd.ntmps10
  go_wp2_with fail
  refine (HP1.out _).mono ?_
  rintro e w1 ⟨ao, n, c, rfl, hn, hI, hb1⟩
  have hb2 : Below w.heap.size w ((w1.alloc (.cells #[.slice ao n c] 24)).alloc (.cells #[.int .i64 0, .int .i64 0] 32)) := hb1.trans ((below_two w1 _ _).mono hb1.size)
  have HPr : Hid (Calls Tryd.prog 8 #[.agg #[.slice ao n c]] ((w1.alloc (.cells #[.slice ao n c] 24)).alloc (.cells #[.int .i64 0, .int .i64 0] 32)) fun e w' => e = .returned (.tuple #[.string ⟨#[108, 101, 116, 32, 97, 32, 61, 32, 49, 59, 10, 109, 97, 116, 99, 104, 32, 97, 32, 42, 32, 40, 50, 32, 43, 32, 51, 41, 59, 10]⟩, .int .i64 0]) ∧ Below ((w1.alloc (.cells #[.slice ao n c] 24)).alloc (.cells #[.int .i64 0, .int .i64 0] 32)).heap.size ((w1.alloc (.cells #[.slice ao n c] 24)).alloc (.cells #[.int .i64 0, .int .i64 0] 32)) w') := by
    have h5 := text_bs (print_calls aw8T ao n c _ (hI.below (below_two w1 (.cells #[.slice ao n c] 24) (.cells #[.int .i64 0, .int .i64 0] 32))) (by unfold maxLen; omega) (HTab.out.below hb2))
    rw [aw82] at h5
    exact h5
  have HB : Hid (Below w.heap.size w ((w1.alloc (.cells #[.slice ao n c] 24)).alloc (.cells #[.int .i64 0, .int .i64 0] 32)) ∧ ((w1.alloc (.cells #[.slice ao n c] 24)).alloc (.cells #[.int .i64 0, .int .i64 0] 32)).heap[w1.heap.size + 1]? = some (.cells #[.int .i64 0, .int .i64 0] 32 (0, 0))) := ⟨hb2, twoN_new w1 _ _⟩
  clear hn hI hb1 hb2 HP1
  go_wp2_with fail
  refine HPr.out.mono ?_
  rintro e w3 ⟨rfl, hb3⟩
  have hbw : Below w.heap.size w w3 := HB.out.1.trans (hb3.mono HB.out.1.size)
  have hft : w3.heap[w1.heap.size + 1]? = some (.cells #[.int .i64 0, .int .i64 0] 32 (0, 0)) := by rw [hb3.block _ (lt_block HB.out.2)]; exact HB.out.2
  have HP3 : Hid (Calls Tryd.prog 8 #[.agg #[.slice (some ⟨w3.heap.size, 0, none⟩) 1 1]] (w3.alloc (.cells #[.int .i64 11, .string ⟨#[]⟩, .slice none 0 0, .int .i64 0] 37)) fun e w' => e = .returned (.tuple #[.string ⟨#[]⟩, .int .i64 80]) ∧ Below (w3.alloc (.cells #[.int .i64 11, .string ⟨#[]⟩, .slice none 0 0, .int .i64 0] 37)).heap.size (w3.alloc (.cells #[.int .i64 11, .string ⟨#[]⟩, .slice none 0 0, .int .i64 0] 37)) w') := by
    have h5 := text_bs (print_calls [⟨11, [], .nil, 0⟩] (some ⟨w3.heap.size, 0, none⟩) 1 1 _ (one11 w3) (by decide) (HTab.out.below (hbw.trans ((low_alloc w3 _).mono hbw.size))))
    rw [aw83] at h5
    exact h5
  have HB3 : Hid (Below w.heap.size w w3 ∧ w3.heap[w1.heap.size + 1]? = some (.cells #[.int .i64 0, .int .i64 0] 32 (0, 0))) := ⟨hbw, hft⟩
  clear hb3 hbw hft HB HPr
  go_wp2_with fail
  refine HP3.out.mono ?_
  rintro e w4 ⟨rfl, hb4⟩
  have hb5 : Below w3.heap.size w3 w4 := (low_alloc w3 _).trans (hb4.mono (low_alloc w3 _).size)
  have hft : w4.heap[w1.heap.size + 1]? = some (.cells #[.int .i64 0, .int .i64 0] 32 (0, 0)) := by rw [hb5.block _ (lt_block HB3.out.2)]; exact HB3.out.2
  have x0 := blk (i := 0) hft rfl
  have HB4 : Hid (Below w.heap.size w w4) := HB3.out.1.trans (hb5.mono HB3.out.1.size)
  clear hb4 hb5 hft HB3 HP3
  go_wp2
  go_ret
  exact ⟨rfl, HB4.out⟩
/-- What Expr says. -/
def exprB (e : Ex) : List UInt8 × Int := if rgtF 32 (ofL [e]) then (if (txE e).length ≤ 4000 then (txE e, 0) else ([], 2)) else ([], 80)
theorem one_right (e : Ex) : treeRight [⟨10, [], ofL [e], 0⟩] = rgtF 32 (ofL [e]) := by
  simp [treeRight, itRight, ofL, nd, lenF]
theorem dec_ne (n : Nat) : Lib.decDigits n ≠ [] := by
  by_cases h : n < 10
  · rw [dig_one h]; simp
  · rw [Lib.decDigits, dif_neg h]; simp
theorem txE_ne {e : Ex} (h : ExR e) : txE e ≠ [] := by
  intro h0
  have h1 := congrArg List.length h0
  obtain ⟨hh, _⟩ := h
  unfold txE exB at h1
  unfold hdRight at hh
  split at hh
  · rename_i k
    rw [if_pos k] at h1
    have := dec_ne e.1.num.toNat
    simp at h1
    exact this h1
  split at hh
  · rename_i k1 k
    rw [if_neg k1, if_pos k] at h1
    simp only [Bool.and_eq_true, decide_eq_true_eq] at hh
    have h2 := hh.2.1
    unfold nameB at h2
    simp only [Bool.and_eq_true, decide_eq_true_eq] at h2
    have := h2.2.1
    simp at h1
    rw [h1] at this
    simp at this
  split at hh
  · rename_i k1 k2 k
    rw [if_neg k1, if_neg k2, if_pos k] at h1
    simp at h1
  split at hh
  · rename_i k1 k2 k3 k
    rw [if_neg k1, if_neg k2, if_neg k3, if_pos k] at h1
    simp at h1
  split at hh
  · rename_i k1 k2 k3 k4 k
    rw [if_neg k1, if_neg k2, if_neg k3, if_neg k4, if_neg (by omega), if_neg (by omega)] at h1
    simp at h1
  split at hh
  · rename_i k1 k2 k3 k4 k5 k
    rw [if_neg k1, if_neg k2, if_neg k3, if_neg k4] at h1
    rcases k with k | k
    · rw [if_pos k] at h1
      simp at h1
    · rw [if_neg (by omega), if_pos k] at h1
      simp at h1
  · cases hh

end Go.Proofs.YtpeldiibjhffiaaDoor
namespace Go.Proofs.YtpeldiibjhffiaaDoor
open Go.RowKit Go.Deep

theorem one_it {o : Bool} {S : Nat → Prop} {w : World} {e : Ex} {ka : Option Addr} {kn kc : Nat} (hE : ExAt o S w e ka kn) : ItsAt false (fun _ => True) (((w.alloc (.cells #[.int .i64 e.1.kind, .int .i64 e.1.num, .string (bs e.1.text), .slice ka kn kc, .int .i64 e.1.pl] 40)).alloc (.cells #[.int .i64 e.1.kind, .int .i64 e.1.num, .string (bs e.1.text), .slice ka kn kc, .int .i64 e.1.pl] 40)).alloc (.cells #[.int .i64 10, .string ⟨#[]⟩, .slice (some ⟨w.heap.size + 1, 0, none⟩) 1 1, .int .i64 0] 37)) [⟨10, [], ofL [e], 0⟩] (some ⟨w.heap.size + 2, 0, none⟩) 1 ∧ Below w.heap.size w (((w.alloc (.cells #[.int .i64 e.1.kind, .int .i64 e.1.num, .string (bs e.1.text), .slice ka kn kc, .int .i64 e.1.pl] 40)).alloc (.cells #[.int .i64 e.1.kind, .int .i64 e.1.num, .string (bs e.1.text), .slice ka kn kc, .int .i64 e.1.pl] 40)).alloc (.cells #[.int .i64 10, .string ⟨#[]⟩, .slice (some ⟨w.heap.size + 1, 0, none⟩) 1 1, .int .i64 0] 37)) ∧ (((w.alloc (.cells #[.int .i64 e.1.kind, .int .i64 e.1.num, .string (bs e.1.text), .slice ka kn kc, .int .i64 e.1.pl] 40)).alloc (.cells #[.int .i64 e.1.kind, .int .i64 e.1.num, .string (bs e.1.text), .slice ka kn kc, .int .i64 e.1.pl] 40)).alloc (.cells #[.int .i64 10, .string ⟨#[]⟩, .slice (some ⟨w.heap.size + 1, 0, none⟩) 1 1, .int .i64 0] 37)).heap[w.heap.size]? = some (.cells #[.int .i64 e.1.kind, .int .i64 e.1.num, .string (bs e.1.text), .slice ka kn kc, .int .i64 e.1.pl] 40 (0, 0)) := by
  have e1 : (w.alloc (.cells #[.int .i64 e.1.kind, .int .i64 e.1.num, .string (bs e.1.text), .slice ka kn kc, .int .i64 e.1.pl] 40)).heap.size = w.heap.size + 1 := by simp
  have e2 : ((w.alloc (.cells #[.int .i64 e.1.kind, .int .i64 e.1.num, .string (bs e.1.text), .slice ka kn kc, .int .i64 e.1.pl] 40)).alloc (.cells #[.int .i64 e.1.kind, .int .i64 e.1.num, .string (bs e.1.text), .slice ka kn kc, .int .i64 e.1.pl] 40)).heap.size = w.heap.size + 2 := by simp
  have hE0 : ExAt false (fun _ => True) w e ka kn := by
    refine ⟨hE.hd, hE.few, ?_⟩
    have h1 : FoAt o (fun _ => True) w e.2 ka kn := hE.kids.base fun _ _ _ => trivial
    cases o with
    | false => exact h1
    | true => exact h1.loose
  have hE1 : ExAt false (fun _ => True) (w.alloc (.cells #[.int .i64 e.1.kind, .int .i64 e.1.num, .string (bs e.1.text), .slice ka kn kc, .int .i64 e.1.pl] 40)) e ka kn := hE0.below (low_alloc _ _)
  have hN := one_new (o := false) (S := fun _ => True) (kc := kc) trivial hE1
  rw [e1] at hN
  have hl := low_alloc ((w.alloc (.cells #[.int .i64 e.1.kind, .int .i64 e.1.num, .string (bs e.1.text), .slice ka kn kc, .int .i64 e.1.pl] 40)).alloc (.cells #[.int .i64 e.1.kind, .int .i64 e.1.num, .string (bs e.1.text), .slice ka kn kc, .int .i64 e.1.pl] 40)) (.cells #[.int .i64 10, .string ⟨#[]⟩, .slice (some ⟨w.heap.size + 1, 0, none⟩) 1 1, .int .i64 0] 37)
  have hF := hN.below hl
  refine ⟨⟨w.heap.size + 2, 0, some ⟨w.heap.size + 1, 0, none⟩, 1, 1, 0, rfl, rfl, trivial, (fun e => by cases e), ⟨(by show InR 10; unfold InR; omega), (by show 0 ≤ _; omega), (by show InR 0; unfold InR; omega)⟩, (by unfold maxLen; omega), fun i u hi => ?_, hF, rfl⟩, ((low_alloc w _).alloc (by simp) _).alloc (by simp; omega) _, heap_old (heap_old (heap_alloc_new w _))⟩
  have h9 := heap_alloc_new ((w.alloc (.cells #[.int .i64 e.1.kind, .int .i64 e.1.num, .string (bs e.1.text), .slice ka kn kc, .int .i64 e.1.pl] 40)).alloc (.cells #[.int .i64 e.1.kind, .int .i64 e.1.num, .string (bs e.1.text), .slice ka kn kc, .int .i64 e.1.pl] 40)) (.cells #[.int .i64 10, .string ⟨#[]⟩, .slice (some ⟨w.heap.size + 1, 0, none⟩) 1 1, .int .i64 0] 37)
  rw [e2] at h9
  rw [cell_of_row _ _ _ _ _ _ h9]
  have h5 : [Value.int .i64 10, .string (bs []), .slice (some ⟨w.heap.size + 1, 0, none⟩) 1 1, .int .i64 0][i]? = some u := hi
  rw [Nat.zero_add]
  have h6 : (#[Value.int .i64 10, .string (bs []), .slice (some ⟨w.heap.size + 1, 0, none⟩) 1 1, .int .i64 0] : Array Value)[i]? = some u := by simpa using h5
  exact h6
set_option maxRecDepth 20000 in
set_option maxHeartbeats 4000000 in
theorem exprP_calls {o : Bool} {S : Nat → Prop} (e : Ex) (ka : Option Addr) (kn kc : Nat) (w : World) (hE : ExAt o S w e ka kn) (htab : TabOk w) :
    Calls Tryd.prog 14 #[.agg #[.int .i64 e.1.kind, .int .i64 e.1.num, .string (bs e.1.text), .slice ka kn kc, .int .i64 e.1.pl]] w fun e' w' => TextPost (exprB e) w e' w' := by
  have hmf : ∀ (fn : Fn) (first cap : Array Value) (w : World), (Instr.makeFunc fn first cap).run Tryd.prog w = .ok (.func fn first cap) w := fun _ _ _ _ => rfl
  obtain ⟨hI, hb3, hbx⟩ := one_it (kc := kc) hE
  have HRt : Hid (Calls Tryd.prog 11 #[.agg #[.slice (some ⟨w.heap.size + 2, 0, none⟩) 1 1]] (((w.alloc (.cells #[.int .i64 e.1.kind, .int .i64 e.1.num, .string (bs e.1.text), .slice ka kn kc, .int .i64 e.1.pl] 40)).alloc (.cells #[.int .i64 e.1.kind, .int .i64 e.1.num, .string (bs e.1.text), .slice ka kn kc, .int .i64 e.1.pl] 40)).alloc (.cells #[.int .i64 10, .string ⟨#[]⟩, .slice (some ⟨w.heap.size + 1, 0, none⟩) 1 1, .int .i64 0] 37)) fun e' w' => e' = .returned (.bool (rgtF 32 (ofL [e]))) ∧ Below (((w.alloc (.cells #[.int .i64 e.1.kind, .int .i64 e.1.num, .string (bs e.1.text), .slice ka kn kc, .int .i64 e.1.pl] 40)).alloc (.cells #[.int .i64 e.1.kind, .int .i64 e.1.num, .string (bs e.1.text), .slice ka kn kc, .int .i64 e.1.pl] 40)).alloc (.cells #[.int .i64 10, .string ⟨#[]⟩, .slice (some ⟨w.heap.size + 1, 0, none⟩) 1 1, .int .i64 0] 37)).heap.size (((w.alloc (.cells #[.int .i64 e.1.kind, .int .i64 e.1.num, .string (bs e.1.text), .slice ka kn kc, .int .i64 e.1.pl] 40)).alloc (.cells #[.int .i64 e.1.kind, .int .i64 e.1.num, .string (bs e.1.text), .slice ka kn kc, .int .i64 e.1.pl] 40)).alloc (.cells #[.int .i64 10, .string ⟨#[]⟩, .slice (some ⟨w.heap.size + 1, 0, none⟩) 1 1, .int .i64 0] 37)) w') := by
    have := right_calls [⟨10, [], ofL [e], 0⟩] (some ⟨w.heap.size + 2, 0, none⟩) 1 1 (((w.alloc (.cells #[.int .i64 e.1.kind, .int .i64 e.1.num, .string (bs e.1.text), .slice ka kn kc, .int .i64 e.1.pl] 40)).alloc (.cells #[.int .i64 e.1.kind, .int .i64 e.1.num, .string (bs e.1.text), .slice ka kn kc, .int .i64 e.1.pl] 40)).alloc (.cells #[.int .i64 10, .string ⟨#[]⟩, .slice (some ⟨w.heap.size + 1, 0, none⟩) 1 1, .int .i64 0] 37)) hI (by unfold maxLen; omega)
    rw [one_right] at this
    exact this
  have H0 : Hid (Below w.heap.size w (((w.alloc (.cells #[.int .i64 e.1.kind, .int .i64 e.1.num, .string (bs e.1.text), .slice ka kn kc, .int .i64 e.1.pl] 40)).alloc (.cells #[.int .i64 e.1.kind, .int .i64 e.1.num, .string (bs e.1.text), .slice ka kn kc, .int .i64 e.1.pl] 40)).alloc (.cells #[.int .i64 10, .string ⟨#[]⟩, .slice (some ⟨w.heap.size + 1, 0, none⟩) 1 1, .int .i64 0] 37)) ∧ (((w.alloc (.cells #[.int .i64 e.1.kind, .int .i64 e.1.num, .string (bs e.1.text), .slice ka kn kc, .int .i64 e.1.pl] 40)).alloc (.cells #[.int .i64 e.1.kind, .int .i64 e.1.num, .string (bs e.1.text), .slice ka kn kc, .int .i64 e.1.pl] 40)).alloc (.cells #[.int .i64 10, .string ⟨#[]⟩, .slice (some ⟨w.heap.size + 1, 0, none⟩) 1 1, .int .i64 0] 37)).heap[w.heap.size]? = some (.cells #[.int .i64 e.1.kind, .int .i64 e.1.num, .string (bs e.1.text), .slice ka kn kc, .int .i64 e.1.pl] 40 (0, 0))) := ⟨hb3, hbx⟩
  have HF : Hid (ExAt o S w e ka kn ∧ TabOk w) := ⟨hE, htab⟩
  have HP : Hid (exprB e = if rgtF 32 (ofL [e]) then (if (txE e).length ≤ 4000 then (txE e, 0) else ([], 2)) else ([], 80)) := rfl
  clear hI hb3 hbx hE htab
  cases hr : rgtF 32 (ofL [e]) with
  | false =>
    have HE : Hid (exprB e = ([], 80)) := by have := HP.out; rw [hr, if_neg (by decide)] at this; exact this
    rw [hr] at HRt
    generalize exprB e = X at *
    clear hr HP
    go_enter Tryd.func14, Tryd.ntmps14
    go_wp2_with fail
    refine HRt.out.mono ?_
    rintro e' w2 ⟨rfl, hb2⟩
    have HB : Hid (Below w.heap.size w w2) := H0.out.1.trans (hb2.mono H0.out.1.size)
    clear hb2 HRt
    go_wp2
    go_ret2
    exact text_post HE.out rfl HB.out
  | true =>
    have HR : Hid (ExR e) := by
      have h1 := (rgt_hds _ _ hr).1
      simp only [ofL, nd, hdsR, Bool.and_eq_true] at h1
      exact ⟨h1.1, h1.2.1⟩
    have HP2 : Hid (exprB e = if (txE e).length ≤ 4000 then (txE e, 0) else ([], 2)) := by have := HP.out; rw [hr, if_pos rfl] at this; exact this
    rw [hr] at HRt
    generalize exprB e = X at *
    clear hr HP
    go_enter Tryd.func14, Tryd.ntmps14
    go_wp2_with fail
    refine HRt.out.mono ?_
    rintro e' w2 ⟨rfl, hb2⟩
    have hbw : Below w.heap.size w w2 := H0.out.1.trans (hb2.mono H0.out.1.size)
    have hbx : (w2.alloc (.cells #[.pointer none, .slice none 0 0] 51)).heap[w.heap.size]? = some (.cells #[.int .i64 e.1.kind, .int .i64 e.1.num, .string (bs e.1.text), .slice ka kn kc, .int .i64 e.1.pl] 40 (0, 0)) := heap_old (by rw [hb2.block _ (lt_block H0.out.2)]; exact H0.out.2)
    have x0 := blk (i := 0) hbx rfl
    have x1 := blk (i := 1) hbx rfl
    have x2 := blk (i := 2) hbx rfl
    have x3 := blk (i := 3) hbx rfl
    have x4 := blk (i := 4) hbx rfl
    have HLe : Hid (Calls Tryd.prog 28 #[.agg #[.int .i64 e.1.kind, .int .i64 e.1.num, .string (bs e.1.text), .slice ka kn kc, .int .i64 e.1.pl], layV w2.heap.size] (w2.alloc (.cells #[.pointer none, .slice none 0 0] 51)) (LPost w2 w2.heap.size [] (txE e) (w2.alloc (.cells #[.pointer none, .slice none 0 0] 51)))) :=
      layExpr_calls (HF.out.2.below hbw) (szF e.2 + 1) e ka kn kc (HF.out.1.below hbw) (by omega) HR.out [] _ ⟨Lib.fresh_isBuilder 51 5 w2, low_alloc _ _⟩ (by simp)
    have HB : Hid (Below w.heap.size w w2) := hbw
    clear hb2 HRt hbw hbx H0 HF
    go_wp2_with fail
    refine HLe.out.mono ?_
    rintro e' w4 ⟨z, rfl, hb4, hk4, ht4, hf4⟩
    clear x0 x1 x2 x3 x4
    cases z with
    | false =>
      have HE : Hid (X = ([], 2)) := by
        have h1 := HP2.out
        have h2 : 4000 < ([] ++ txE e).length := hf4 rfl
        rw [List.nil_append] at h2
        rw [if_neg (by omega)] at h1
        exact h1
      have HB4 : Hid (Below w.heap.size w w4) := HB.out.trans (hb4.mono HB.out.size)
      clear hb4 hk4 ht4 hf4 HLe
      go_wp2
      go_ret2
      exact text_post HE.out rfl HB4.out
    | true =>
      obtain ⟨hS4, hT4⟩ := ht4 rfl
      rw [List.nil_append] at hS4 hT4
      have HE : Hid (X = (txE e, 0)) := by
        have h1 := HP2.out
        rw [if_pos hT4] at h1
        exact h1
      have hbw4 : Below w.heap.size w w4 := HB.out.trans (hb4.mono HB.out.size)
      have HStr : Hid (Calls Tryd.prog 19 #[.pointer (some ⟨w2.heap.size, 0, none⟩)] w4 fun e' w' => e' = .returned (.string ⟨(txE e).toArray⟩) ∧ Below w.heap.size w w') := by
        refine (string_calls w2.heap.size w2.heap.size (txE e) w4 hS4.is (txE_ne HR.out)).mono ?_
        rintro e' w' ⟨rfl, hb⟩
        exact ⟨rfl, hbw4.trans (hb.mono HB.out.size)⟩
      clear hb4 hk4 ht4 hf4 HLe hS4 hT4 hbw4
      go_wp2_with fail
      refine HStr.out.mono ?_
      rintro e' w5 ⟨rfl, hb5⟩
      have HB5 : Hid (Below w.heap.size w w5) := hb5
      clear hb5 HStr
      go_wp2
      go_ret2
      exact text_post HE.out rfl HB5.out

end Go.Proofs.YtpeldiibjhffiaaDoor
