/-
  A tree is written: Print.
-/
import Derived.Test.YtpeldiibjhffiaaDoorG35
import Derived.Test.YtpeldiibjhffiaaDoorDeep
namespace Go.Proofs.YtpeldiibjhffiaaDoor
open Go.RowKit Go.Deep

theorem rgt_hds : ∀ (F : Fo) (d : Nat), rgtF d F = true → hdsR F = true ∧ depF F ≤ d
  | .nil, _, _ => ⟨rfl, Nat.zero_le _⟩
  | .node _ _ h k r, d, hh => by
    simp only [rgtF, Bool.and_eq_true, decide_eq_true_eq] at hh
    have h1 := rgt_hds k (d - 1) hh.2.2.1
    have h2 := rgt_hds r d hh.2.2.2
    simp only [hdsR, depF, Bool.and_eq_true]
    exact ⟨⟨hh.2.1, h1.1, h2.1⟩, by omega⟩
theorem it_facts {i : It} (h : itRight i = true) : (bs i.name).size ≤ 100 ∧ hdsR i.args = true ∧ depF i.args ≤ 32 := by
  have he : (bs ([] : List UInt8)).size ≤ 100 := by decide
  unfold itRight at h
  split at h
  · simp only [Bool.and_eq_true, decide_eq_true_eq] at h
    exact ⟨name_small h.1, rgt_hds _ _ h.2.2⟩
  split at h
  · simp only [Bool.and_eq_true, decide_eq_true_eq] at h
    have hn : i.args = .nil := by
      cases ha : i.args with
      | nil => rfl
      | node a b c d e => rw [ha] at h; simp [lenF] at h
    rw [hn]
    exact ⟨way_small h.1, rfl, by simp [depF]⟩
  split at h
  · simp only [Bool.and_eq_true, decide_eq_true_eq] at h
    rw [h.1]
    exact ⟨he, rgt_hds _ _ h.2.2⟩
  split at h
  · simp only [Bool.and_eq_true, decide_eq_true_eq] at h
    rw [h.1]
    exact ⟨he, rgt_hds _ _ h.2.2⟩
  · cases h
theorem itB_ne (i : It) : itB i ≠ [] := by
  unfold itB
  intro h
  have := congrArg List.length h
  simp at this
theorem sign_small (k : Int) : (bs (signI k)).size ≤ 100 := by
  unfold signI
  split <;> decide
/-- An item is laid down, whatever was laid down before. -/
theorem layIt {w0 : World} {b : Nat} {o : Bool} {S : Nat → Prop} (htab : TabOk w0) (i : It) (ka : Option Addr) (kn kc : Nat) (hF : FoAt o S w0 i.args ka kn) (hn : kn ≤ maxLen) (hR : itRight i = true) (T : List UInt8) (w : World) (hS : Sh w0 b T w) (hT : T.length ≤ 4000) :
    Calls Tryd.prog 17 #[.agg #[.int .i64 i.kind, .string (bs i.name), .slice ka kn kc, .int .i64 i.pl], layV b] w (LPost w0 b T (itB i) w) := by
  obtain ⟨h1, h2, h3⟩ := it_facts hR
  refine layItem_calls i ka kn kc h1 (fun T w q1 q2 => ?_) T w hS hT
  have := layAll_calls (w0 := w0) (b := b) (o := o) (S := S) (szF i.args + 1) (fun e ka kn kc a1 a2 a3 => layExpr_calls htab _ e ka kn kc a1 a2 a3) (bs (signI i.kind)) (sign_small _) i.args ka kn kc hF hn (by omega) h2 T w q1 q2
  rw [bs_data] at this
  exact this
set_option maxRecDepth 20000 in
set_option maxHeartbeats 4000000 in
theorem print_calls {o : Bool} {S : Nat → Prop} (L : List It) (ao : Option Addr) (n c : Nat) (w : World) (hF : ItsAt o S w L ao n) (hn : n ≤ maxLen) (htab : TabOk w) :
    Calls Tryd.prog 8 #[.agg #[.slice ao n c]] w fun e w' => TextPost (printB L) w e w' := by

  have hmf : ∀ (fn : Fn) (first cap : Array Value) (w : World), (Instr.makeFunc fn first cap).run Tryd.prog w = .ok (.func fn first cap) w := fun _ _ _ _ => rfl
  have hb0 : Below w.heap.size w (w.alloc (.cells #[.slice ao n c] 24)) := low_alloc _ _
  have HRt : Hid (Calls Tryd.prog 11 #[.agg #[.slice ao n c]] (w.alloc (.cells #[.slice ao n c] 24)) fun e' w' => e' = .returned (.bool (treeRight L)) ∧ Below (w.alloc (.cells #[.slice ao n c] 24)).heap.size (w.alloc (.cells #[.slice ao n c] 24)) w') := right_calls L ao n c _ (hF.below hb0) hn
  have H0 : Hid (Below w.heap.size w (w.alloc (.cells #[.slice ao n c] 24)) ∧ (w.alloc (.cells #[.slice ao n c] 24)).heap[w.heap.size]? = some (.cells #[.slice ao n c] 24 (0, 0))) := ⟨hb0, heap_alloc_new w _⟩
  have HF : Hid (ItsAt o S w L ao n ∧ TabOk w) := ⟨hF, htab⟩
  have HP : Hid (printB L = if treeRight L then (if (treeB L).length ≤ 4000 then (treeB L, 0) else ([], 2)) else ([], 80)) := rfl
  have hn2 := hn
  unfold maxLen at hn2
  clear hF hb0 htab
  cases hr : treeRight L with
  | false =>
    have HE : Hid (printB L = ([], 80)) := by have := HP.out; rw [hr, if_neg (by decide)] at this; exact this
    rw [hr] at HRt
    generalize printB L = A at *
    clear hr HP
    go_enter Tryd.func8, Tryd.ntmps8
    go_wp2_with fail
    refine HRt.out.mono ?_
    rintro e w2 ⟨rfl, hb2⟩
    have HB : Hid (Below w.heap.size w w2) := H0.out.1.trans (hb2.mono H0.out.1.size)
    clear hb2 HRt
    go_wp2
    go_ret2
    exact text_post HE.out rfl HB.out
  | true =>
    rw [hr] at HRt
    have HRA : Hid (∀ i ∈ L, itRight i = true) := by
      unfold treeRight at hr
      simp only [Bool.and_eq_true, decide_eq_true_eq, List.all_eq_true] at hr
      exact hr.2
    have HP2 : Hid (printB L = if (treeB L).length ≤ 4000 then (treeB L, 0) else ([], 2)) := by have := HP.out; rw [hr, if_pos rfl] at this; exact this
    generalize printB L = A at *
    clear hr HP
    obtain ⟨g, off, hka, hF'⟩ := itsAt_addr HF.out.1
    have HF' : Hid (ItsAt o S w L (some ⟨g, off + 0 * 4, none⟩) (n - 0)) := hF'
    clear hF'
    go_enter Tryd.func8, Tryd.ntmps8
    go_wp2_with fail
    refine HRt.out.mono ?_
    rintro e w2 ⟨rfl, hb2⟩
    have hbx : w2.heap[w.heap.size]? = some (.cells #[.slice ao n c] 24 (0, 0)) := by rw [hb2.block _ (lt_block H0.out.2)]; exact H0.out.2
    have x0 : ∀ o, (w2.alloc o).cell? ⟨w.heap.size, 0, none⟩ = some (.slice ao n c) := fun o => blk (i := 0) (heap_old hbx) rfl
    have HB : Hid (Below w.heap.size w w2) := H0.out.1.trans (hb2.mono H0.out.1.size)
    have HS0 : Hid (Sh w2 w2.heap.size [] (w2.alloc (.cells #[.pointer none, .slice none 0 0] 51)) ∧ (w2.alloc (.cells #[.pointer none, .slice none 0 0] 51)).heap[w2.heap.size]? = some (.cells #[.pointer none, .slice none 0 0] 51 (0, 0))) := ⟨⟨Lib.fresh_isBuilder 51 5 w2, low_alloc _ _⟩, heap_alloc_new w2 _⟩
    have HF2 : Hid (ItsAt o S w2 L (some ⟨g, off + 0 * 4, none⟩) (n - 0) ∧ TabOk w2) := ⟨HF'.out.below HB.out, HF.out.2.below HB.out⟩
    clear hb2 HRt hbx H0 HF HF'
    go_wp2_with fail
    generalize w2.alloc (.cells #[.pointer none, .slice none 0 0] 51) = w3 at *
    clear x0
    go_loopg [13] n (fun k iv wr => ∃ (L' : List It) (i : Nat) (T : List UInt8), iv = .int .i64 (i : Int) ∧ i + k = n ∧ Hid (ItsAt o S w2 L' (some ⟨g, off + i * 4, none⟩) (n - i) ∧ (∀ i ∈ L', itRight i = true) ∧ T ++ treeB L' = treeB L) ∧ Hid (Sh w2 w2.heap.size T wr ∧ T.length ≤ 4000 ∧ (T = [] → wr.heap[w2.heap.size]? = some (.cells #[.pointer none, .slice none 0 0] 51 (0, 0)))))
    case atStart => exact ⟨L, 0, [], rfl, by omega, ⟨HF2.out.1, HRA.out, rfl⟩, HS0.out.1, by simp, fun _ => HS0.out.2⟩
    case round =>
      clear HS0
      obtain ⟨L', i, T, rfl, hik, HG, HT⟩ := hrel
      by_cases hi : i < n
      · have hdi : decide ((i : Int) < (n : Int)) = true := by simp; omega
        obtain ⟨it, r9, ka, kc, kk, rfl, -, hok, hkc, ⟨c0, c1, c2, c3⟩, hk2, hr2⟩ := itsAt_head HG.out.1 hi
        have hka2 := hka (by omega)
        subst hka2
        have HLi : Hid (Calls Tryd.prog 17 #[.agg #[.int .i64 it.kind, .string (bs it.name), .slice ka kc kk, .int .i64 it.pl], layV w2.heap.size] (wr.alloc (.cells #[.int .i64 it.kind, .string (bs it.name), .slice ka kc kk, .int .i64 it.pl] 37)) (LPost w2 w2.heap.size T (itB it) (wr.alloc (.cells #[.int .i64 it.kind, .string (bs it.name), .slice ka kc kk, .int .i64 it.pl] 37)))) := layIt HF2.out.2 it ka kc kk hk2 hkc (HG.out.2.1 it (by simp)) T _ (HT.out.1.next (low_alloc _ _)) HT.out.2.1
        have HNx : Hid (ItsAt o S w2 r9 (some ⟨g, off + (i + 1) * 4, none⟩) (n - (i + 1)) ∧ (∀ i ∈ r9, itRight i = true) ∧ (T ++ itB it) ++ treeB r9 = treeB L) := ⟨hr2, fun j hj => HG.out.2.1 j (by simp [hj]), by rw [List.append_assoc]; exact HG.out.2.2⟩
        have x0 := keepc HT.out.1.low c0
        have x1 := keepc HT.out.1.low c1
        have x2 := keepc HT.out.1.low c2
        have x3 := keepc HT.out.1.low c3
        clear HG HT hok hkc hk2 hr2 c0 c1 c2 c3
        go_wp2_with fail
        refine HLi.out.mono ?_
        rintro e w4 ⟨z, rfl, hb4, hk4, ht4, hf4⟩
        clear x0 x1 x2 x3
        cases z with
        | false =>
          have HE : Hid (A = ([], 2)) := by
            have h1 := HP2.out
            have h2 := hf4 rfl
            have h3 := congrArg List.length HNx.out.2.2
            simp only [List.length_append] at h2 h3
            rw [if_neg (by omega)] at h1
            exact h1
          have HB4 : Hid (Below w.heap.size w w4) := HB.out.trans (hb4.mono HB.out.size)
          clear hb4 hk4 ht4 hf4
          go_wp2
          go_ret2
          exact text_post HE.out rfl HB4.out
        | true =>
          obtain ⟨hS4, hT4⟩ := ht4 rfl
          have HT4 : Hid (Sh w2 w2.heap.size (T ++ itB it) w4 ∧ (T ++ itB it).length ≤ 4000 ∧ (T ++ itB it = [] → w4.heap[w2.heap.size]? = some (.cells #[.pointer none, .slice none 0 0] 51 (0, 0)))) := ⟨hS4, hT4, fun e => absurd (List.append_eq_nil_iff.1 e).2 (itB_ne it)⟩
          clear hb4 hk4 ht4 hf4 hS4 hT4
          go_wp2_with fail
          go_roundg (gk - 1)
          case measure => omega
          case rel => exact ⟨r9, i + 1, T ++ itB it, by go_num, by omega, HNx.out, HT4.out⟩
      · have hdi : decide ((i : Int) < (n : Int)) = false := by simp; omega
        have HX : Hid (T = treeB L) := by
          obtain ⟨h1, _, h3⟩ := HG.out
          rw [show n - i = 0 by omega] at h1
          have h4 := itsAt_end h1
          subst h4
          have h5 : T ++ [] = treeB L := h3
          rw [List.append_nil] at h5
          exact h5
        have HE : Hid (A = (T, 0)) := by
          have h1 := HP2.out
          rw [← HX.out, if_pos HT.out.2.1] at h1
          exact h1
        have HStr : Hid (Calls Tryd.prog 19 #[.pointer (some ⟨w2.heap.size, 0, none⟩)] wr fun e w' => e = .returned (.string ⟨T.toArray⟩) ∧ Below w.heap.size w w') := by
          have hbw : Below w.heap.size w wr := HB.out.trans (HT.out.1.low.mono HB.out.size)
          by_cases hT0 : T = []
          · refine (string_none w2.heap.size (.pointer none) wr (HT.out.2.2 hT0)).mono ?_
            rintro e w' ⟨rfl, hb⟩
            rw [hT0]
            exact ⟨rfl, hbw.trans (hb.mono hbw.size)⟩
          · refine (string_calls w2.heap.size w2.heap.size T wr HT.out.1.is hT0).mono ?_
            rintro e w' ⟨rfl, hb⟩
            exact ⟨rfl, hbw.trans (hb.mono HB.out.size)⟩
        clear HG HT HX HP2
        go_wp2_with fail
        refine HStr.out.mono ?_
        rintro e w5 ⟨rfl, hb5⟩
        have HB5 : Hid (Below w.heap.size w w5) := hb5
        clear hb5 HStr
        go_wp2
        go_ret2
        exact text_post HE.out rfl HB5.out

end Go.Proofs.YtpeldiibjhffiaaDoor
