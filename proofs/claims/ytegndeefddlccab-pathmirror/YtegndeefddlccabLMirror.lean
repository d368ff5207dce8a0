/-
  Proved: whatever model, sequences and columns are handed in, PathMirror answers true: rows and columns exchanged, a global path is legal as it was and worth the same; no condition but that what is handed in can be read.
-/
import Derived.Test.YtegndeefddlccabPmE
import Derived.Test.YtegndeefddlccabRows
import Derived.ProofKit
import Derived.OpenShut
import Derived.ShutString
import Derived.ChangeOld
import Derived.Below
namespace Go.Proofs.Ytegndeefddlccab
open Go.RowKit

set_option maxRecDepth 20000 in
set_option maxHeartbeats 4000000 in
theorem mirror_walk (m : Md) (sa : Option Addr) (sn sc : Nat) (ga : Option Addr) (gn gc : Nat) (xa : Option Addr) (xn xc : Nat) (xs : List Int) (ya : Option Addr) (yn yc : Nat) (ys : List Int) (s : ByteArray) (w : World) (h : MdIn w m sa sn ga gn) (hwf : (Lit.int .i64 m.lo).wf = true ∧ (Lit.int .i64 m.hi).wf = true) (hx : IntsAt w xa xn xs) (_hxl : xn ≤ 17592186044416) (hy : IntsAt w ya yn ys) (_hyl : yn ≤ 17592186044416) (hs : s.size ≤ 140737488351232) :
    Calls Try.prog 6 #[.agg (mdCells m sa sn sc ga gn gc), .slice xa xn xc, .slice ya yn yc, .string s] w fun e w' => e = .returned (.bool true) ∧ Below w.heap.size w w' := by
  by_cases hin : m.mode = 1 ∧ ¬ m.lo < -1099511627776 ∧ ¬ 1099511627776 < m.hi ∧ 2 ≤ m.letters ∧ m.letters ≤ 20 ∧ (sn : Int) = m.letters * m.letters
  · obtain ⟨h1, h2, h3, h4, h5, h6⟩ := hin
    have h0 := h.at'
    obtain ⟨letters, su, gp, mode, banded, lo, hi, front, back, least⟩ := m
    simp only at h1 h2 h3 h4 h5 h6 hwf
    subst h1
    obtain ⟨L, rfl⟩ := Int.eq_ofNat_of_zero_le (show 0 ≤ letters by omega)
    exact mirror_in L su gp banded lo hi front back least sa sn sc ga gn gc xa xn xc xs ya yn yc ys s w h0 hx hy hs (by omega) (by omega) h2 h3 (by exact_mod_cast h6) hwf.1 hwf.2
  have hsub := h.at'.subst.length
  have HIn : Hid (¬ (m.mode = 1 ∧ ¬ m.lo < -1099511627776 ∧ ¬ 1099511627776 < m.hi ∧ 2 ≤ m.letters ∧ m.letters ≤ 20 ∧ (sn : Int) = m.letters * m.letters)) := hin
  clear h hx hy hin
  have HB0 : Hid (B1 w (mdCells m sa sn sc ga gn gc) (w.alloc (.cells (mdCells m sa sn sc ga gn gc) 25))) := ⟨bl1 _ _, hp_at rfl⟩
  rw [show mdCells m sa sn sc ga gn gc = #[.int .i64 m.letters, .slice sa sn sc, .slice ga gn gc, .int .i64 m.mode, .bool m.banded, .int .i64 m.lo, .int .i64 m.hi, .int .i64 m.front, .int .i64 m.back, .int .i64 m.least] from rfl]
  go_enter Try.func6, Try.ntmps6
  go_wp2_with fail
  refine (awake_calls _).mono ?_
  rintro e w1 ⟨rfl, hb1⟩
  have HB1 : Hid (B1 w (mdCells m sa sn sc ga gn gc) w1) := HB0.out.next hb1
  clear hb1 HB0
  have c0 := HB1.out.old 0 (.int .i64 m.letters) rfl; have c1 := HB1.out.old 1 (.slice sa sn sc) rfl; have c2 := HB1.out.old 2 (.slice ga gn gc) rfl; have c3 := HB1.out.old 3 (.int .i64 m.mode) rfl; have c4 := HB1.out.old 4 (.bool m.banded) rfl; have c5 := HB1.out.old 5 (.int .i64 m.lo) rfl; have c6 := HB1.out.old 6 (.int .i64 m.hi) rfl; have c7 := HB1.out.old 7 (.int .i64 m.front) rfl; have c8 := HB1.out.old 8 (.int .i64 m.back) rfl; have c9 := HB1.out.old 9 (.int .i64 m.least) rfl
  by_cases h1 : m.mode = 1
  case neg =>
    have h1b : (m.mode != 1) = true := by simpa using h1
    go_wp2
    go_ret
    exact ⟨rfl, HB1.out.low⟩
  have h1b : (m.mode != 1) = false := by simp [h1]
  by_cases h2 : m.lo < -1099511627776
  · go_wp2
    go_ret
    exact ⟨rfl, HB1.out.low⟩
  by_cases h3 : 1099511627776 < m.hi
  · go_wp2
    go_ret
    exact ⟨rfl, HB1.out.low⟩
  by_cases h4 : m.letters < 2
  · go_wp2
    go_ret
    exact ⟨rfl, HB1.out.low⟩
  by_cases h5 : 20 < m.letters
  · go_wp2
    go_ret
    exact ⟨rfl, HB1.out.low⟩
  have hLL : 0 ≤ m.letters * m.letters ∧ m.letters * m.letters ≤ 400 := ⟨Int.mul_nonneg (by omega) (by omega), Int.mul_le_mul (show m.letters ≤ 20 by omega) (show m.letters ≤ 20 by omega) (by omega) (by omega)⟩
  by_cases h6 : (sn : Int) = m.letters * m.letters
  case neg =>
    have h6b : ((sn : Int) != m.letters * m.letters) = true := by simpa using h6
    go_wp2
    go_ret
    exact ⟨rfl, HB1.out.low⟩
  exact absurd ⟨h1, by omega, by omega, by omega, by omega, h6⟩ HIn.out

theorem ints_in {H : Type} {enc : TypeId × Value → H} {W : World} {v : Value} {d : DataW H} {p : List MemPlace} (h : DataW.Trod enc Try.prog W 0 (fun _ => true) true 22 v d p) (hw : ∀ n ∈ d.weights Try.prog 22, n ≤ reachBytes) :
    ∃ ao len cap l, v.cells.toList = [.slice ao len cap] ∧ len ≤ 17592186044416 ∧ IntsAt W ao len l := by
  obtain ⟨fuel, hf⟩ := h
  exact open_int22 hf hw
theorem str_size {H : Type} {a : ByteArray} (h : ∀ n ∈ (DataW.lit (H := H) (.string a.data.toList)).weights Try.prog 9, n ≤ reachBytes) : a.size ≤ 140737488351232 := by
  have hw := h a.data.toList.length (by simp [DataW.weights])
  unfold reachBytes at hw
  rw [ba_size] at hw
  omega

namespace pathMirror
open Go.ChangeShapes Go.WideShapes Go.ChangeAt Go.RowKit
open Go.ChangeMaps (open_string shut_string)
theorem own : ownKnob Try.prog.godebug = none := by kernel_rfl
theorem laidOut : laidOutB Try.prog = true := by kernel_rfl
set_option maxRecDepth 100000 in
theorem lifted (os : Os) (started : os.Started) (H : Type) (enc : TypeId × Value → H) :
    ReturnsInHanded {} Try.checked os 6 .any (Rows.pathMirrorSpec.pre6 enc Try.prog Try.f6 Rows.pathMirrorRow.domain false) (Rows.pathMirrorSpec.post enc Try.prog Try.f6 false true false false) := by
  refine returnsInHanded_of_change_sized (C := Try.checked) own started (by kernel_rfl) Try.func6
    (ChangeSpec.witness6 (enc := enc) (C := Try.checked) false ⟨#[], #[.agg #[.int .i64 0, .slice none 0 0, .slice none 0 0, .int .i64 0, .bool false, .int .i64 0, .int .i64 0, .int .i64 0, .int .i64 0, .int .i64 0], .slice none 0 0, .slice none 0 0, .string { data := #[] }], []⟩ 8 (by kernel_rfl) (by kernel_rfl) (by kernel_rfl) (by kernel_rfl)) ?_
  intro W base args ds gs before hval0 hW _ hsz0 _
  have hval : ∀ (j : Nat) t v, Try.f6.params[j]? = some t → args[j]? = some v → Value.okWide Try.prog W .any base t v := hval0
  have hsz : (DataW.weightsEach Try.prog (Try.f6.params.toList ++ Rows.pathMirrorSpec.plain.varTypes Try.prog) (ds ++ gs)).all (· ≤ reachBytes) = true := hsz0
  have hW' := hW
  obtain ⟨p, q, hA0, hV, rfl, hfz, hnd⟩ := hW
  have hA : DataW.TrodAll enc Try.prog W 0 (fun _ => true) true Try.f6.params.toList args.toList ds p := hA0
  rw [Try.params6] at hA hval hsz
  obtain ⟨v0, vs0, d0, ds0, p0, q0, hargs, rfl, rfl, h0, r0⟩ := trodAll_cons hA
  obtain ⟨v1, vs1, d1, ds1, p1, q1, rfl, rfl, rfl, h1, r1⟩ := trodAll_cons r0
  obtain ⟨v2, vs2, d2, ds2, p2, q2, rfl, rfl, rfl, h2, r2⟩ := trodAll_cons r1
  obtain ⟨v3, vs3, d3, ds3, p3, q3, rfl, rfl, rfl, h3, r3⟩ := trodAll_cons r2
  obtain ⟨rfl, rfl, rfl⟩ := trodAll_nil r3
  obtain rfl : args = #[v0, v1, v2, v3] := by cases args; simp_all
  obtain ⟨rfl, rfl⟩ := trodVars_none hV
  have hw : ∀ (j : Nat) (t : TypeId) (d : DataW H), ([25, 22, 22, 9] ++ Rows.pathMirrorSpec.plain.varTypes Try.prog)[j]? = some t → ([d0, d1, d2, d3] ++ [])[j]? = some d → ∀ n ∈ d.weights Try.prog t, n ≤ reachBytes := fun j t d ht hd n hn =>
    of_decide_eq_true (List.all_eq_true.1 hsz _ (DataW.weights_mem_each ht hd n hn))
  obtain ⟨cs0, rfl, hcs0⟩ := okWide_struct Try.underlying25 (hval 0 25 v0 rfl rfl)
  have lt0 : ∀ x ∈ p0, x.block < W.heap.size := by obtain ⟨m, hm⟩ := h0; exact DataW.trod_lt m _ _ _ hm
  obtain ⟨m0, sa0, sn0, sc0, ga0, gn0, gc0, e0, in0⟩ := md_in hcs0 h0 (hw 0 25 d0 rfl rfl)
  subst e0
  have lt1 : ∀ x ∈ p1, x.block < W.heap.size := by obtain ⟨m, hm⟩ := h1; exact DataW.trod_lt m _ _ _ hm
  obtain ⟨ao1, len1, cap1, l1, e1, few1, in1⟩ := ints_in h1 (hw 1 22 d1 rfl rfl)
  obtain ⟨ax1, nx1, cx1, rfl⟩ := okWide_slice Try.underlying22 (hval 1 22 v1 rfl rfl)
  obtain ⟨rfl, rfl, rfl⟩ : ax1 = ao1 ∧ nx1 = len1 ∧ cx1 = cap1 := by have e := e1; simp [Value.cells] at e; exact e
  have lt2 : ∀ x ∈ p2, x.block < W.heap.size := by obtain ⟨m, hm⟩ := h2; exact DataW.trod_lt m _ _ _ hm
  obtain ⟨ao2, len2, cap2, l2, e2, few2, in2⟩ := ints_in h2 (hw 2 22 d2 rfl rfl)
  obtain ⟨ax2, nx2, cx2, rfl⟩ := okWide_slice Try.underlying22 (hval 2 22 v2 rfl rfl)
  obtain ⟨rfl, rfl, rfl⟩ : ax2 = ao2 ∧ nx2 = len2 ∧ cx2 = cap2 := by have e := e2; simp [Value.cells] at e; exact e
  obtain ⟨s3, rfl, rfl, rfl, w3⟩ := open_string Try.underlying9 (hval 3 9 v3 rfl rfl) h3
  have hz3 : s3.size ≤ 140737488351232 := str_size (hw 3 9 _ rfl rfl)
  clear hA0 hval0
  refine (mirror_walk m0 sa0 sn0 sc0 ga0 gn0 gc0 ax1 nx1 cx1 l1 ax2 nx2 cx2 l2 s3 W in0 (md_wf h0) in1 few1 in2 few2 hz3).mono fun e W' ⟨he, bel⟩ => ?_
  subst he
  exact ⟨_, rfl, _, _, _, [], _, [], hW', trodAll_mk1 (shut_bool Try.underlying4 _), (trodAll_cons_mk (Below.trod laidOut (by kernel_rfl) (of_decide_eq_true (by kernel_rfl)) h0 bel lt0) (trodAll_cons_mk (Below.trod laidOut (by kernel_rfl) (of_decide_eq_true (by kernel_rfl)) h1 bel lt1) (trodAll_cons_mk (Below.trod laidOut (by kernel_rfl) (of_decide_eq_true (by kernel_rfl)) h2 bel lt2) (trodAll_cons_mk (shut_string Try.underlying9 w3) trodAll_mk0)))), rfl, bel.frame _, fun h => by cases h⟩
end pathMirror

theorem pathMirror_holds : Rows.PathMirrorSaid :=
  OpenClaim.holds_of_wide 6 Try.f6 rfl rfl rfl rfl rfl rfl rfl ⟨rfl, rfl, rfl, rfl, rfl⟩ rfl rfl rfl rfl rfl (by kernel_rfl) Try.func6 (by kernel_rfl)
    (of_decide_eq_true (by kernel_rfl)) (by unfold Func.isWrapper; first | (rw [if_pos (by decide +kernel)]; kernel_rfl) | (rw [if_neg (by decide +kernel)]; exact ⟨rfl, rfl⟩))
    (fun os started H enc _ => pathMirror.lifted os started H enc)

end Go.Proofs.Ytegndeefddlccab
