/-
  Where every path ends: what the document's own End tells.
-/
import Derived.Test.YtnkfibahkmmnpaaRows
import Derived.Deep.Slices
import Derived.SizedLaws
import Derived.Test.YtnkfibahkmmnpaaKs
namespace Go.Proofs.Ytnkfibahkmmnpaa
open Go.RowKit Go.Deep

theorem cE9 : Try.prog.cellsOf 9 = 1 := by kernel_rfl
theorem cE3 : Try.prog.cellsOf 3 = 1 := by kernel_rfl
set_option maxRecDepth 20000 in
theorem open_path {H : Type} {enc : TypeId × Value → H} {W : World} {base : Nat} {held : Bool} {fuel : Nat} {cs : List Value} {x : DataW H × List MemPlace} (hlen : cs.length = 3) (h : DataW.trod enc Try.prog W base (fun _ => true) held fuel 23 cs = some x) (hw : ∀ n ∈ x.1.weights Try.prog 23, n ≤ reachBytes) :
    ∃ (i j : Int) (s : ByteArray), cs = [.int .i64 i, .int .i64 j, .string s] ∧ s.size ≤ 140737488351232 ∧ (Lit.int .i64 i).wf = true ∧ (Lit.int .i64 j).wf = true := by
  obtain ⟨xs, k, hk, hxy, _, hxl, hf⟩ := DataW.trod_struct Try.underlying23 h
  match cs, hlen with
  | [v0, v1, v2], _ =>
    have g0 := hf 0 _ rfl
    have g1 := hf 1 _ rfl
    have g2 := hf 2 _ rfl
    match xs, hxl with
    | [y0, y1, y2], _ =>
      simp [cE3, cE9] at g0 g1 g2
      obtain ⟨s0, e0, _, z0⟩ := DataW.trod_int Try.underlying3 g0
      obtain ⟨s1, e1, _, z1⟩ := DataW.trod_int Try.underlying3 g1
      obtain ⟨s2, e2, y2e, z2⟩ := DataW.trod_string Try.underlying9 g2
      have hlen2 : s2.size ≤ 140737488351232 := by
        have := hw s2.data.toList.length (by
          rw [hxy]
          simp only [DataW.weights, Try.underlying23]
          exact DataW.weights_mem_each (j := 2) (t := 9) (d := y2.1) rfl rfl _ (by rw [y2e]; simp [DataW.weights]))
        rw [size_toList] at this
        unfold reachBytes at this
        omega
      simp at e0 e1 e2
      subst e0 e1 e2
      exact ⟨s0, s1, s2, rfl, hlen2, z0, z1⟩
theorem path_in {H : Type} {enc : TypeId × Value → H} {W : World} {cs : Array Value} {d : DataW H} {p : List MemPlace} (hcs : cs.size = Try.prog.cellsOf 23) (h : DataW.Trod enc Try.prog W 0 (fun _ => true) true 23 (.agg cs) d p) (hw : ∀ n ∈ d.weights Try.prog 23, n ≤ reachBytes) :
    ∃ (i j : Int) (s : ByteArray), cs = #[.int .i64 i, .int .i64 j, .string s] ∧ s.size ≤ 140737488351232 ∧ (Lit.int .i64 i).wf = true ∧ (Lit.int .i64 j).wf = true := by
  obtain ⟨fuel, hf⟩ := h
  obtain ⟨i, j, s, hl, hs⟩ := open_path (by rw [show (Value.agg cs).cells.toList = cs.toList from rfl, Array.length_toList, hcs]; kernel_rfl) hf hw
  exact ⟨i, j, s, Array.toList_inj.1 hl, hs⟩
theorem wrap_add (a b : Int) : wrap64 (wrap64 a + b) = wrap64 (a + b) := by unfold wrap64; omega
theorem wrap_self {a : Int} (h1 : -9223372036854775808 ≤ a) (h2 : a ≤ 9223372036854775807) : wrap64 a = a := by unfold wrap64; omega
/-- How many columns up to a place take a letter. -/
def cnt2 (l : List UInt8) (a b : UInt8) : Nat := l.count a + l.count b
theorem cnt2_snoc (l : List UInt8) (c a b : UInt8) (hab : a ≠ b) : cnt2 (l ++ [c]) a b = cnt2 l a b + if c = a ∨ c = b then 1 else 0 := by
  unfold cnt2
  rw [List.count_append, List.count_append, List.count_singleton, List.count_singleton]
  by_cases h1 : c = a
  · subst h1
    have : ¬ c = b := hab
    simp [this]
    omega
  · by_cases h2 : c = b
    · subst h2; simp [h1]; omega
    · simp [h1, h2]
theorem take_byte (s : ByteArray) (k : Nat) (h : k < s.size) : s.data.toList.take (k + 1) = s.data.toList.take k ++ [s[k]] := by
  rw [List.take_succ_eq_append_getElem (by simpa using h)]; rfl
theorem u8_is (c : UInt8) (n : Nat) (hn : n < 256) : (((c.toNat : Int)) == (n : Int)) = decide (c = UInt8.ofNat n) := by
  rw [Bool.eq_iff_iff]
  simp only [beq_iff_eq, decide_eq_true_eq]
  constructor
  · intro h
    apply UInt8.toNat_inj.1
    have := UInt8.toNat_ofNat' (n := n)
    omega
  · rintro rfl
    have := UInt8.toNat_ofNat' (n := n)
    omega
set_option maxRecDepth 10000 in
set_option maxHeartbeats 2000000 in
theorem dend_calls (I J : Int) (s : ByteArray) (hs : s.size ≤ 2147483647) (hI : -9223372036854775808 ≤ I ∧ I ≤ 9223372036854775807) (hJ : -9223372036854775808 ≤ J ∧ J ≤ 9223372036854775807) (w : World) :
    Calls Try.prog 8 #[.agg #[.int .i64 I, .int .i64 J, .string s]] w fun e w' => e = .returned (.tuple #[.int .i64 (wrap64 (I + cnt2 s.data.toList 77 68)), .int .i64 (wrap64 (J + cnt2 s.data.toList 77 73))]) ∧ Below w.heap.size w w' := by
  have HI : Hid (wrap64 (I + cnt2 (s.data.toList.take 0) 77 68) = I ∧ wrap64 (J + cnt2 (s.data.toList.take 0) 77 73) = J) := by
    show _ ∧ _
    rw [List.take_zero]
    have e : ∀ a b, cnt2 [] a b = 0 := fun a b => rfl
    rw [e, e]
    exact ⟨by rw [show I + ((0 : Nat) : Int) = I by omega]; exact wrap_self hI.1 hI.2, by rw [show J + ((0 : Nat) : Int) = J by omega]; exact wrap_self hJ.1 hJ.2⟩
  have H0 : Hid ((w.alloc (.cells #[.int .i64 I, .int .i64 J, .string s] 23)).heap[w.heap.size]? = some (.cells #[.int .i64 I, .int .i64 J, .string s] 23 (0, 0)) ∧ Below w.heap.size w (w.alloc (.cells #[.int .i64 I, .int .i64 J, .string s] 23))) := ⟨heap_alloc_new _ _, below_new _⟩
  clear hI hJ
  go_enter Try.func8, Try.ntmps8
  go_wp2
  have c2 := cell_block H0.out.1 2 (.string s) rfl
  obtain ⟨wd, hwd⟩ : ∃ wd, wd = w.alloc (.cells #[.int .i64 I, .int .i64 J, .string s] 23) := ⟨_, rfl⟩
  rw [← hwd] at H0 c2 ⊢
  clear hwd
  go_loop [4, 5, 6] (fun iv jv kv => ∃ k : Nat, k ≤ s.size ∧ kv = .int .i64 k ∧ iv = .int .i64 (wrap64 (I + cnt2 (s.data.toList.take k) 77 68)) ∧ jv = .int .i64 (wrap64 (J + cnt2 (s.data.toList.take k) 77 73))) (fun _ _ kv => s.size - (intOf kv).toNat)
  case atStart => exact ⟨0, Nat.zero_le _, rfl, by rw [HI.out.1], by rw [HI.out.2]⟩
  case round =>
    obtain ⟨k, hk, rfl, rfl, rfl⟩ := hrel
    by_cases hlt : k < s.size
    · have hd : decide ((k : Int) < (s.size : Int)) = true := decide_eq_true (by omega)
      have HT := take_byte s k hlt
      have HA : Hid (wrap64 (I + cnt2 (s.data.toList.take (k + 1)) 77 68) = wrap64 (wrap64 (I + cnt2 (s.data.toList.take k) 77 68) + (if s[k] = 77 ∨ s[k] = 68 then 1 else 0 : Nat)) ∧ wrap64 (J + cnt2 (s.data.toList.take (k + 1)) 77 73) = wrap64 (wrap64 (J + cnt2 (s.data.toList.take k) 77 73) + (if s[k] = 77 ∨ s[k] = 73 then 1 else 0 : Nat))) := by
        show _ ∧ _
        rw [HT, cnt2_snoc _ _ _ _ (by decide), cnt2_snoc _ _ _ _ (by decide), wrap_add, wrap_add]
        constructor <;> (congr 1; omega)
      have hix : ∀ W, (Instr.index 9 (.string s) (.int .i64 (k : Int))).run Try.prog W = .ok (.int .u8 (s[k].toNat : Int)) W := fun W => by
        rw [run_index_string W 9 _ .i64 _ Try.underlying9, dif_pos ⟨by omega, by omega⟩]
        rfl
      have b1 := u8_is s[k] 77 (by omega)
      have b2 := u8_is s[k] 68 (by omega)
      have b3 := u8_is s[k] 73 (by omega)
      rw [show UInt8.ofNat 77 = 77 from rfl] at b1
      rw [show UInt8.ofNat 68 = 68 from rfl] at b2
      rw [show UInt8.ofNat 73 = 73 from rfl] at b3
      have HW : Hid (∀ z : Int, wrap64 (wrap64 z + ((0 : Nat) : Int)) = wrap64 z) := fun z => by rw [wrap_add]; congr 1; omega
      clear HT
      generalize hA : wrap64 (I + cnt2 (s.data.toList.take k) 77 68) = A at *
      generalize hB : wrap64 (J + cnt2 (s.data.toList.take k) 77 73) = B at *
      have HA0 : Hid (wrap64 (A + ((0 : Nat) : Int)) = A ∧ wrap64 (B + ((0 : Nat) : Int)) = B) := by
        show _ ∧ _
        rw [← hA, ← hB]; exact ⟨HW.out _, HW.out _⟩
      clear hA hB HW HI
      generalize s[k] = cb at *
      by_cases h1 : cb = 77
      · have e1 : (((cb.toNat : Nat) : Int) == 77) = true := by rw [show (77 : Int) = ((77 : Nat) : Int) from rfl, b1]; simpa using h1
        rw [if_pos (Or.inl h1), if_pos (Or.inl h1)] at HA
        clear b1 b2 b3 h1
        go_wp2
        go_round
        case rel => exact ⟨k + 1, by omega, by go_num, by rw [HA.out.1]; rfl, by rw [HA.out.2]; rfl⟩
        case measure => simp [intOf]; omega
      have e1 : (((cb.toNat : Nat) : Int) == 77) = false := by rw [show (77 : Int) = ((77 : Nat) : Int) from rfl, b1]; simpa using h1
      by_cases h2 : cb = 68
      · have e2 : (((cb.toNat : Nat) : Int) == 68) = true := by rw [show (68 : Int) = ((68 : Nat) : Int) from rfl, b2]; simpa using h2
        have h3 : ¬ cb = 73 := by rw [h2]; decide
        have e3 : (((cb.toNat : Nat) : Int) == 73) = false := by rw [show (73 : Int) = ((73 : Nat) : Int) from rfl, b3]; simpa using h3
        rw [if_pos (Or.inr h2), if_neg (fun z => z.elim h1 h3)] at HA
        clear b1 b2 b3 h1 h2 h3
        go_wp2
        go_round
        case rel => exact ⟨k + 1, by omega, by go_num, by rw [HA.out.1]; rfl, by rw [HA.out.2, HA0.out.2]⟩
        case measure => simp [intOf]; omega
      have e2 : (((cb.toNat : Nat) : Int) == 68) = false := by rw [show (68 : Int) = ((68 : Nat) : Int) from rfl, b2]; simpa using h2
      by_cases h3 : cb = 73
      · have e3 : (((cb.toNat : Nat) : Int) == 73) = true := by rw [show (73 : Int) = ((73 : Nat) : Int) from rfl, b3]; simpa using h3
        rw [if_neg (fun z => z.elim h1 h2), if_pos (Or.inr h3)] at HA
        clear b1 b2 b3 h1 h2 h3
        go_wp2
        go_round
        case rel => exact ⟨k + 1, by omega, by go_num, by rw [HA.out.1, HA0.out.1], by rw [HA.out.2]; rfl⟩
        case measure => simp [intOf]; omega
      have e3 : (((cb.toNat : Nat) : Int) == 73) = false := by rw [show (73 : Int) = ((73 : Nat) : Int) from rfl, b3]; simpa using h3
      rw [if_neg (fun z => z.elim h1 h2), if_neg (fun z => z.elim h1 h3)] at HA
      clear b1 b2 b3 h1 h2 h3
      go_wp2
      go_round
      case rel => exact ⟨k + 1, by omega, by go_num, by rw [HA.out.1, HA0.out.1], by rw [HA.out.2, HA0.out.2]⟩
      case measure => simp [intOf]; omega
    · have hd : decide ((k : Int) < (s.size : Int)) = false := decide_eq_false (by omega)
      have hks : s.data.toList.take k = s.data.toList := List.take_of_length_le (by rw [size_toList]; omega)
      have HX : Hid (s.data.toList.take k = s.data.toList) := hks
      clear hks HI
      rw [HX.out]
      go_wp2
      go_ret2
      exact ⟨rfl, H0.out.2⟩
def Bo23 (w W : World) (cs : Array Value) : Prop := W.heap[w.heap.size]? = some (.cells cs 23 (0, 0)) ∧ Below w.heap.size w W
theorem Bo23.next {w W V : World} {cs : Array Value} (h : Bo23 w W cs) (hb : Below W.heap.size W V) : Bo23 w V cs := ⟨by rw [hb.block _ (lt_block h.1)]; exact h.1, h.2.trans (hb.mono h.2.size)⟩
set_option maxRecDepth 10000 in
set_option maxHeartbeats 2000000 in
theorem ends_walk (I J : Int) (s : ByteArray) (w : World) (hs47 : s.size ≤ 140737488351232) (hI : (Lit.int .i64 I).wf = true) (hJ : (Lit.int .i64 J).wf = true) :
    Calls Try.prog 3 #[.agg #[.int .i64 I, .int .i64 J, .string s]] w fun e w' => e = .returned (.bool true) ∧ Below w.heap.size w w' := by
  have hI2 : -9223372036854775808 ≤ I ∧ I ≤ 9223372036854775807 := by have h := hI; simp [Lit.wf, IntKind.min, IntKind.max, IntKind.signed, IntKind.bits] at h; omega
  have hJ2 : -9223372036854775808 ≤ J ∧ J ≤ 9223372036854775807 := by have h := hJ; simp [Lit.wf, IntKind.min, IntKind.max, IntKind.signed, IntKind.bits] at h; omega
  clear hI hJ
  have H0 : Hid (Bo23 w (w.alloc (.cells #[.int .i64 I, .int .i64 J, .string s] 23)) #[.int .i64 I, .int .i64 J, .string s]) := ⟨heap_alloc_new _ _, below_new _⟩
  by_cases h31 : 2147483647 < s.size
  · have hd : decide ((2147483647 : Int) < (s.size : Int)) = true := decide_eq_true (by omega)
    go_enter Try.func3, Try.ntmps3
    go_wp2
    go_ret
    exact ⟨rfl, H0.out.2⟩
  have hd : decide ((2147483647 : Int) < (s.size : Int)) = false := decide_eq_false (by omega)
  have HE : Hid (∀ W, Calls Try.prog 8 #[.agg #[.int .i64 I, .int .i64 J, .string s]] W fun e w' => e = .returned (.tuple #[.int .i64 (wrap64 (wrap64 (I + Lib.countByte s.data.toList 77) + Lib.countByte s.data.toList 68)), .int .i64 (wrap64 (wrap64 (J + Lib.countByte s.data.toList 77) + Lib.countByte s.data.toList 73))]) ∧ Below W.heap.size W w') := fun W => by
    have := dend_calls I J s (by omega) hI2 hJ2 W
    have e : ∀ (z : Int) (b : UInt8), wrap64 (wrap64 (z + Lib.countByte s.data.toList 77) + Lib.countByte s.data.toList b) = wrap64 (z + cnt2 s.data.toList 77 b) := fun z b => by
      rw [wrap_add]; unfold cnt2 Lib.countByte; congr 1; omega
    rw [e, e]
    exact this
  clear hI2 hJ2 h31
  go_enter Try.func3, Try.ntmps3
  go_wp2_with fail
  refine (awake_calls _).mono ?_
  rintro e w1 ⟨rfl, hb1⟩
  have H1 : Hid (Bo23 w w1 #[.int .i64 I, .int .i64 J, .string s]) := H0.out.next hb1
  clear hb1 H0
  have c0 := H1.out.1 |> fun h => cell_block h 0 (.int .i64 I) rfl
  have c1 := H1.out.1 |> fun h => cell_block h 1 (.int .i64 J) rfl
  have c2 := H1.out.1 |> fun h => cell_block h 2 (.string s) rfl
  go_wp2_with fail
  refine (tend_calls I J s _).mono ?_
  rintro e w2 ⟨rfl, hb2⟩
  have H2 : Hid (Bo23 w w2 #[.int .i64 I, .int .i64 J, .string s]) := H1.out.next hb2
  clear hb2 H1 c0 c1 c2
  have c0 := H2.out.1 |> fun h => cell_block h 0 (.int .i64 I) rfl
  have c1 := H2.out.1 |> fun h => cell_block h 1 (.int .i64 J) rfl
  have c2 := H2.out.1 |> fun h => cell_block h 2 (.string s) rfl
  generalize wrap64 (wrap64 (I + Lib.countByte s.data.toList 77) + Lib.countByte s.data.toList 68) = A at *
  generalize wrap64 (wrap64 (J + Lib.countByte s.data.toList 77) + Lib.countByte s.data.toList 73) = B at *
  go_wp2_with fail
  refine (HE.out _).mono ?_
  rintro e w3 ⟨rfl, hb3⟩
  have H3 : Hid (Bo23 w w3 #[.int .i64 I, .int .i64 J, .string s]) := H2.out.next hb3
  clear hb3 H2 c0 c1 c2
  have ea : (A == A) = true := by simp
  have eb : (B == B) = true := by simp
  go_wp2
  go_ret
  exact ⟨rfl, H3.out.2⟩

namespace traceEnds
open Go.ChangeShapes Go.WideShapes Go.ChangeAt Go.RowKit
open Go.ChangeMaps (open_string shut_string)
theorem own : ownKnob Try.prog.godebug = none := by kernel_rfl
theorem laidOut : laidOutB Try.prog = true := by kernel_rfl
set_option maxRecDepth 100000 in
theorem lifted (os : Os) (started : os.Started) (H : Type) (enc : TypeId × Value → H) :
    ReturnsInHanded {} Try.checked os 3 .any (Rows.traceEndsSpec.pre6 enc Try.prog Try.f3 Rows.traceEndsRow.domain false) (Rows.traceEndsSpec.post enc Try.prog Try.f3 false true false false) := by
  refine returnsInHanded_of_change_sized (C := Try.checked) own started (by kernel_rfl) Try.func3
    (ChangeSpec.witness6 (enc := enc) (C := Try.checked) false ⟨#[], #[.agg #[.int .i64 0, .int .i64 0, .string { data := #[] }]], []⟩ 8 (by kernel_rfl) (by kernel_rfl) (by kernel_rfl) (by kernel_rfl)) ?_
  intro W base args ds gs before hval0 hW _ hsz0 _
  have hval : ∀ (j : Nat) t v, Try.f3.params[j]? = some t → args[j]? = some v → Value.okWide Try.prog W .any base t v := hval0
  have hsz : (DataW.weightsEach Try.prog (Try.f3.params.toList ++ Rows.traceEndsSpec.plain.varTypes Try.prog) (ds ++ gs)).all (· ≤ reachBytes) = true := hsz0
  have hW' := hW
  obtain ⟨p, q, hA0, hV, rfl, hfz, hnd⟩ := hW
  have hA : DataW.TrodAll enc Try.prog W 0 (fun _ => true) true Try.f3.params.toList args.toList ds p := hA0
  rw [Try.params3] at hA hval hsz
  obtain ⟨v0, vs0, d0, ds0, p0, q0, hargs, rfl, rfl, h0, r0⟩ := trodAll_cons hA
  obtain ⟨rfl, rfl, rfl⟩ := trodAll_nil r0
  obtain rfl : args = #[v0] := by cases args; simp_all
  obtain ⟨rfl, rfl⟩ := trodVars_none hV
  have hw : ∀ (j : Nat) (t : TypeId) (d : DataW H), ([23] ++ Rows.traceEndsSpec.plain.varTypes Try.prog)[j]? = some t → ([d0] ++ [])[j]? = some d → ∀ n ∈ d.weights Try.prog t, n ≤ reachBytes := fun j t d ht hd n hn =>
    of_decide_eq_true (List.all_eq_true.1 hsz _ (DataW.weights_mem_each ht hd n hn))
  obtain ⟨cs0, rfl, hcs0⟩ := okWide_struct Try.underlying23 (hval 0 23 v0 rfl rfl)
  have lt0 : ∀ x ∈ p0, x.block < W.heap.size := by obtain ⟨m, hm⟩ := h0; exact DataW.trod_lt m _ _ _ hm
  obtain ⟨pi0, pj0, ps0, e0, in0, wi0, wj0⟩ := path_in hcs0 h0 (hw 0 23 d0 rfl rfl)
  subst e0
  clear hA0 hval0
  refine (ends_walk pi0 pj0 ps0 W in0 wi0 wj0).mono fun e W' ⟨he, bel⟩ => ?_
  subst he
  exact ⟨_, rfl, _, _, _, [], _, [], hW', trodAll_mk1 (shut_bool Try.underlying4 _), (trodAll_cons_mk (Below.trod laidOut (by kernel_rfl) (of_decide_eq_true (by kernel_rfl)) h0 bel lt0) trodAll_mk0), rfl, bel.frame _, fun h => by cases h⟩
end traceEnds

theorem traceEnds_holds : Rows.TraceEndsSaid :=
  OpenClaim.holds_of_wide 3 Try.f3 rfl rfl rfl rfl rfl rfl rfl ⟨rfl, rfl, rfl, rfl, rfl⟩ rfl rfl rfl rfl rfl (by kernel_rfl) Try.func3 (by kernel_rfl)
    (of_decide_eq_true (by kernel_rfl)) (by unfold Func.isWrapper; first | (rw [if_pos (by decide +kernel)]; kernel_rfl) | (rw [if_neg (by decide +kernel)]; exact ⟨rfl, rfl⟩))
    (fun os started H enc _ => traceEnds.lifted os started H enc)

end Go.Proofs.Ytnkfibahkmmnpaa
