/-
  LexScans is proved for every input: lex.Scan tells of every two sources the tokens, or what is wrong and where, as the document says, each time anew. No condition.
-/
import Derived.Test.YtjhbofnfaidhfaaRows
import Derived.Test.YtjhbofnfaidhfaaSame
import Derived.Test.YtjhbofnfaidhfaaRefScan
import Derived.WalkKit
import Derived.ProofKit
import Derived.OpenShut
import Derived.ShutString
import Derived.ChangeOld
import Derived.Below
namespace Go.Proofs.Ytjhbofnfaidhfaa
open Go.RowKit

theorem owned_setNe {w : World} {B b i n : Nat} {v u : Value} {xs : List Value} {e : TypeId} {sz : Nat} (ho : w.ownsRow B e sz v n xs) (hne : v.ownBlock ≠ some b) : (w.setCell ⟨b, i, none⟩ u).ownsRow B e sz v n xs :=
  owned_of_block ho fun g _ hg _ => Below.heap_setCell w _ u g (fun e' => hne (by rw [hg]; exact congrArg some e'))
/-- The first answer, which may be written over, and the wanted one behind it. -/
structure ScInv (w w1 : World) (va vw : Value) (n : Nat) (l : List Tk) (wr : World) : Prop where
  row : ∃ xs, wr.ownsRow w.heap.size 28 4 va n xs
  ahead : ∀ k, va.ownBlock = some k → k < w1.heap.size
  want : wr.ownsRow w1.heap.size 28 4 vw n (rowCells l)
  below : Below w.heap.size w wr
theorem ScInv.put {w w1 wr : World} {g n cap : Nat} {vw : Value} {l : List Tk} (h : ScInv w w1 (.slice (some ⟨g, 0, none⟩) n cap) vw n l wr) (j : Nat) (u : Value) : ScInv w w1 (.slice (some ⟨g, 0, none⟩) n cap) vw n l (wr.setCell ⟨g, j, none⟩ u) := by
  obtain ⟨xs, hx⟩ := h.row
  have hg := h.ahead g rfl
  refine ⟨⟨_, owned_set hx j u⟩, h.ahead, owned_setNe h.want ?_, h.below.setCell (p := ⟨g, j, none⟩) (hx.lt g rfl).1 u⟩
  intro e
  have := (h.want.lt g e).1
  omega
theorem ScInv.cell {w w1 wr : World} {g n cap : Nat} {vw : Value} {l : List Tk} (h : ScInv w w1 (.slice (some ⟨g, 0, none⟩) n cap) vw n l wr) (j : Nat) (hj : j < n * 4) : ∃ u, wr.cell? ⟨g, j, none⟩ = some u ∧ wr.frozen? ⟨g, j, none⟩ = false := by
  obtain ⟨xs, hx⟩ := h.row
  have hl : j < xs.length := by rw [hx.1]; exact hj
  exact ⟨_, owned_cells hx j _ (List.getElem?_eq_getElem hl)⟩

set_option maxRecDepth 20000 in
set_option maxHeartbeats 4000000 in
theorem scans_walk (s t : ByteArray) (w : World) (_ : s.size ≤ maxLen) (_ : t.size ≤ maxLen) :
    Calls Try.prog 3 #[.string s, .string t] w fun e w' => e = .returned (.bool true) ∧ Below w.heap.size w w' := by
  have HA1 : Hid (∀ w, Calls Try.prog 9 #[.string s] w fun e w' => ScanPost (scanB s.data.toList) w e w') := fun w => scan_calls s w
  have HA2 : Hid (∀ w, Calls Try.prog 10 #[.string s] w fun e w' => ScanPost (scanB s.data.toList) w e w') := fun w => refScan_calls s w
  have HB1 : Hid (∀ w, Calls Try.prog 9 #[.string t] w fun e w' => ScanPost (scanB t.data.toList) w e w') := fun w => scan_calls t w
  have HB2 : Hid (∀ w, Calls Try.prog 10 #[.string t] w fun e w' => ScanPost (scanB t.data.toList) w e w') := fun w => refScan_calls t w
  have HOk1 := scan_ok s.data.toList
  have HOk2 := scan_ok t.data.toList
  have hf1 := scan_few s.data.toList
  generalize scanB s.data.toList = A at *
  generalize scanB t.data.toList = B at *
  obtain ⟨l1, p1, z1⟩ := A
  obtain ⟨l2, p2, z2⟩ := B
  simp only at hf1
  have HK1 : Hid (∀ r ∈ l1, TkOk r) := HOk1
  have HK2 : Hid (∀ r ∈ l2, TkOk r) := HOk2
  clear HOk1 HOk2
  have he1 : ((p1 : Int) == (p1 : Int)) = true := by simp
  have he2 : ((p2 : Int) == (p2 : Int)) = true := by simp
  have he3 : (z1 == z1) = true := by simp
  have he4 : (z2 == z2) = true := by simp
  go_enter Try.func3, Try.ntmps3
  go_wp2_with fail
  refine (HA1.out _).mono ?_
  rintro e w1 ⟨va, rfl, hoa, hb1⟩
  simp only at hoa
  obtain ⟨ao, ca, rfl⟩ := owned_shape hoa
  have HO1 : Hid (w1.ownsRow w.heap.size 28 4 (.slice ao l1.length ca) l1.length (rowCells l1)) := hoa
  have HL1 : Hid (Below w.heap.size w w1) := hb1
  clear hoa hb1
  go_wp2_with fail
  refine (HA2.out _).mono ?_
  rintro e w2 ⟨vw, rfl, how, hb2⟩
  simp only at how
  obtain ⟨wo, cw, rfl⟩ := owned_shape how
  have HO2 : Hid (w2.ownsRow w1.heap.size 28 4 (.slice wo l1.length cw) l1.length (rowCells l1)) := how
  have HS2 : Hid (ScInv w w1 (.slice ao l1.length ca) (.slice wo l1.length cw) l1.length l1 w2) :=
    ⟨⟨_, owned_below HO1.out hb2⟩, fun k hk => (HO1.out.lt k hk).2, how, HL1.out.trans (hb2.mono HL1.out.size)⟩
  have HT1 : Hid (TksAt w2 ao l1.length l1) := owned_tks (owned_below HO1.out hb2) HK1.out
  clear how hb2 HA2 HL1 HO1
  go_wp2_with fail
  refine (same_calls ao wo l1.length ca cw l1 w2 HT1.out (owned_tks HO2.out HK1.out)).mono ?_
  rintro e w3 ⟨rfl, k3, hw3⟩
  have HS3 : Hid (ScInv w w1 (.slice ao l1.length ca) (.slice wo l1.length cw) l1.length l1 w3) := by
    have hb : Below w2.heap.size w2 w3 := by rw [hw3]; exact below_drewN (Below.refl _ _) k3
    obtain ⟨xs, hx⟩ := HS2.out.row
    exact ⟨⟨xs, owned_below hx hb⟩, HS2.out.ahead, owned_below HS2.out.want hb, HS2.out.below.trans (hb.mono HS2.out.below.size)⟩
  clear hw3 HS2 HT1 HO2
  generalize hn : l1.length = n at *
  clear hn
  go_wp2
  go_loopw [12] (fun i wr => ∃ k : Nat, k ≤ n ∧ i = .int .i64 k ∧ ScInv w w1 (.slice ao n ca) (.slice wo n cw) n l1 wr) (fun i _ => n - (intOf i).toNat)
  case atStart => exact ⟨0, Nat.zero_le _, rfl, HS3.out⟩
  case round =>
    obtain ⟨k, hk, rfl, hinv⟩ := hrel
    by_cases hlt : k < n
    · have hdk : decide ((k : Int) < (n : Int)) = true := by simp; omega
      obtain ⟨xs, hx⟩ := hinv.row
      obtain ⟨g, cap', hv, _, _, _, _⟩ := owned_some hx (by omega)
      obtain ⟨rfl, rfl⟩ : ao = some ⟨g, 0, none⟩ ∧ ca = cap' := by simpa using hv
      obtain ⟨u0, c0, f0⟩ := hinv.cell (k * 4) (by omega)
      obtain ⟨u1, c1, f1⟩ := hinv.cell (k * 4 + 1) (by omega)
      obtain ⟨u2, c2, f2⟩ := hinv.cell (k * 4 + 2) (by omega)
      obtain ⟨u3, c3, f3⟩ := hinv.cell (k * 4 + 3) (by omega)
      have HI : Hid (ScInv w w1 (.slice (some ⟨g, 0, none⟩) n ca) (.slice wo n cw) n l1 wr) := hinv
      clear hinv hx hv HS3
      go_wp2
      go_roundw
      case rel => exact ⟨k + 1, by omega, by go_num, (((HI.out.put _ _).put _ _).put _ _).put _ _⟩
      case measure => simp [intOf]; omega
    · have hdk : decide ((k : Int) < (n : Int)) = false := by simp; omega
      have HI : Hid (ScInv w w1 (.slice ao n ca) (.slice wo n cw) n l1 wr) := hinv
      clear hinv HS3
      go_wp2_with fail
      refine (HB1.out _).mono ?_
      rintro e w4 ⟨v4, rfl, ho4, hb4⟩
      simp only at ho4
      obtain ⟨o4, c4, rfl⟩ := owned_shape ho4
      have HT4 : Hid (TksAt w4 o4 l2.length l2) := owned_tks ho4 HK2.out
      have HL4 : Hid (Below w.heap.size w w4) := HI.out.below.trans (hb4.mono HI.out.below.size)
      have HW4 : Hid (TksAt w4 wo n l1) := (owned_tks HI.out.want HK1.out).below hb4
      clear ho4 hb4 HI HB1
      go_wp2_with fail
      refine (HB2.out _).mono ?_
      rintro e w5 ⟨v5, rfl, ho5, hb5⟩
      simp only at ho5
      obtain ⟨o5, c5, rfl⟩ := owned_shape ho5
      have HT5 : Hid (TksAt w5 o5 l2.length l2 ∧ TksAt w5 o4 l2.length l2 ∧ TksAt w5 wo n l1 ∧ Below w.heap.size w w5) := ⟨owned_tks ho5 HK2.out, HT4.out.below hb5, HW4.out.below hb5, HL4.out.trans (hb5.mono HL4.out.size)⟩
      clear ho5 hb5 HT4 HL4 HW4 HB2
      go_wp2_with fail
      refine (HA1.out _).mono ?_
      rintro e w6 ⟨v6, rfl, ho6, hb6⟩
      simp only at ho6
      obtain ⟨o6, c6, rfl⟩ := owned_shape ho6
      have HT6 : Hid (TksAt w6 o5 l2.length l2 ∧ TksAt w6 o4 l2.length l2 ∧ TksAt w6 wo n l1 ∧ Below w.heap.size w w6) := ⟨HT5.out.1.below hb6, HT5.out.2.1.below hb6, HT5.out.2.2.1.below hb6, HT5.out.2.2.2.trans (hb6.mono HT5.out.2.2.2.size)⟩
      have hnl : l1.length = n := HT6.out.2.2.1.length
      rw [hnl] at ho6 ⊢
      have HT6c : Hid (TksAt w6 o6 n l1) := owned_tks ho6 HK1.out
      clear ho6 hb6 HT5 HA1 hnl
      go_wp2_with fail
      refine (same_calls o4 o5 l2.length c4 c5 l2 w6 HT6.out.2.1 HT6.out.1).mono ?_
      rintro e w7 ⟨rfl, k7, hw7⟩
      have hb7 : Below w6.heap.size w6 w7 := by rw [hw7]; exact below_drewN (Below.refl _ _) k7
      have HT7 : Hid (TksAt w7 o6 n l1 ∧ TksAt w7 wo n l1 ∧ Below w.heap.size w w7) := ⟨HT6c.out.below hb7, HT6.out.2.2.1.below hb7, HT6.out.2.2.2.trans (hb7.mono HT6.out.2.2.2.size)⟩
      clear hw7 hb7 HT6 HT6c
      go_wp2_with fail
      refine (same_calls o6 wo n c6 cw l1 w7 HT7.out.1 HT7.out.2.1).mono ?_
      rintro e w8 ⟨rfl, k8, hw8⟩
      have HL8 : Hid (Below w.heap.size w w8) := by
        show Below _ _ _
        rw [hw8]; exact below_drewN HT7.out.2.2 k8
      clear hw8 HT7
      go_wp2
      go_ret
      exact ⟨rfl, HL8.out⟩

namespace lexScans
open Go.ChangeShapes Go.WideShapes Go.ChangeAt Go.RowKit
open Go.ChangeMaps (open_string shut_string)
theorem own : ownKnob Try.prog.godebug = none := by kernel_rfl

set_option maxRecDepth 100000 in
theorem lifted (os : Os) (started : os.Started) (H : Type) (enc : TypeId × Value → H) :
    ReturnsInHanded {} Try.checked os 3 .any (Rows.lexScansSpec.pre6 enc Try.prog Try.f3 Rows.lexScansRow.domain false) (Rows.lexScansSpec.post enc Try.prog Try.f3 false true false false) := by
  refine returnsInHanded_of_change (C := Try.checked) own started (by kernel_rfl) Try.func3
    (ChangeSpec.witness6 (enc := enc) (C := Try.checked) false ⟨#[], #[.string ByteArray.empty, .string ByteArray.empty], []⟩ 8 (by kernel_rfl) (by kernel_rfl) (by kernel_rfl) (by kernel_rfl)) ?_
  intro W base args ds gs before hval0 hW _ _
  have hval : ∀ (j : Nat) t v, Try.f3.params[j]? = some t → args[j]? = some v → Value.okWide Try.prog W .any base t v := hval0
  have hW' := hW
  obtain ⟨p, q, hA0, hV, rfl, hfz, hnd⟩ := hW
  have hA : DataW.TrodAll enc Try.prog W 0 (fun _ => true) true Try.f3.params.toList args.toList ds p := hA0
  rw [Try.params3] at hA hval
  obtain ⟨v0, vs0, d0, ds0, p0, q0, hargs, rfl, rfl, h0, r0⟩ := trodAll_cons hA
  obtain ⟨v1, vs1, d1, ds1, p1, q1, rfl, rfl, rfl, h1, r1⟩ := trodAll_cons r0
  obtain ⟨rfl, rfl, rfl⟩ := trodAll_nil r1
  obtain rfl : args = #[v0, v1] := by cases args; simp_all
  obtain ⟨rfl, rfl⟩ := trodVars_none hV
  obtain ⟨a0, rfl, rfl, rfl, w0⟩ := open_string Try.underlying9 (hval 0 9 v0 rfl rfl) h0
  obtain ⟨a1, rfl, rfl, rfl, w1⟩ := open_string Try.underlying9 (hval 1 9 v1 rfl rfl) h1
  clear hA0 hval0
  refine (scans_walk a0 a1 W w0 w1).mono fun e W' ⟨he, bel⟩ => ?_
  subst he
  exact ⟨_, rfl, _, _, _, [], _, [], hW', trodAll_mk1 (shut_bool Try.underlying4 _), (trodAll_cons_mk (shut_string Try.underlying9 w0) (trodAll_cons_mk (shut_string Try.underlying9 w1) trodAll_mk0)), rfl, bel.frame _, fun h => by cases h⟩
end lexScans

theorem lexScans_holds : Rows.LexScansSaid :=
  OpenClaim.holds_of_wide 3 Try.f3 rfl rfl rfl rfl rfl rfl rfl ⟨rfl, rfl, rfl, rfl, rfl⟩ rfl rfl rfl rfl rfl (by kernel_rfl) Try.func3 (by kernel_rfl)
    (of_decide_eq_true (by kernel_rfl)) (by unfold Func.isWrapper; first | (rw [if_pos (by decide +kernel)]; kernel_rfl) | (rw [if_neg (by decide +kernel)]; exact ⟨rfl, rfl⟩))
    (fun os started H enc _ => lexScans.lifted os started H enc)
end Go.Proofs.Ytjhbofnfaidhfaa
