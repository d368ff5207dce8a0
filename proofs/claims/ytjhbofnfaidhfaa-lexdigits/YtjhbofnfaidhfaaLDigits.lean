/-
  LexDigits is proved for every input: a number from 0 on, written in digits, is a token just if it is at most 2^56; with a nought ahead it is none. No condition.
-/
import Derived.Test.YtjhbofnfaidhfaaRows
import Derived.Test.YtjhbofnfaidhfaaCat
import Derived.Test.YtjhbofnfaidhfaaDigP
import Derived.WalkKit
import Derived.ProofKit
import Derived.OpenShut
import Derived.ShutString
import Derived.ChangeOld
import Derived.Below
namespace Go.Proofs.Ytjhbofnfaidhfaa
open Go.RowKit

def tenS : ByteArray := ⟨#[48, 49, 50, 51, 52, 53, 54, 55, 56, 57]⟩
theorem ten_extract (k q : Nat) (hk : k < 10) (hq : q = k + 1) : tenS.extract k q = bs [dgB k] := by
  subst hq
  refine byte_ext ?_
  rw [extract_list, bs_list, List.drop_take, show k + 1 - k = 1 by omega]
  match k, hk with
  | 0, _ => rfl
  | 1, _ => rfl
  | 2, _ => rfl
  | 3, _ => rfl
  | 4, _ => rfl
  | 5, _ => rfl
  | 6, _ => rfl
  | 7, _ => rfl
  | 8, _ => rfl
  | 9, _ => rfl
theorem ten_run (k q : Nat) (hk : k < 10) (hq : q = k + 1) (w : World) : (Instr.slice 9 (.string ⟨#[48, 49, 50, 51, 52, 53, 54, 55, 56, 57]⟩) (some (.int .i64 (k : Int))) (some (.int .i64 (q : Int))) none).run Try.prog w = .ok (.string (bs [dgB k])) w := by
  have h := slice_run tenS k q (by omega) (by show q ≤ 10; omega) w
  rw [ten_extract k q hk hq] at h
  exact h
set_option maxHeartbeats 400000 in
theorem digits_calls : ∀ (n : Nat), n < 9223372036854775808 → ∀ (w : World),
    Calls Try.prog 19 #[.int .i64 (n : Int)] w fun e w' => e = .returned (.string (bs (digN n))) ∧ ∃ k, w' = w.drewN k := by
  intro n
  induction n using Nat.strongRecOn with
  | _ n ih =>
    intro hn w
    by_cases h10 : n < 10
    · obtain ⟨q, hq⟩ : ∃ q : Nat, q = n + 1 := ⟨_, rfl⟩
      have hnq : (n : Int) + 1 = (q : Int) := by omega
      have hrun := ten_run n q h10 hq
      have hd : decide ((n : Int) < 10) = true := by simp; omega
      have HX : Hid (digN n = [dgB n]) := digN_small h10
      generalize dgB n = c at *
      clear hq ih
      go_enter Try.func19, Try.ntmps19
      go_wp2
      go_ret
      exact ⟨by rw [HX.out]; rfl, 0, rfl⟩
    · have hd : decide ((n : Int) < 10) = false := by simp; omega
      obtain ⟨m, hm⟩ : ∃ m : Nat, m = n / 10 := ⟨_, rfl⟩
      obtain ⟨d, hdd⟩ : ∃ d : Nat, d = n % 10 := ⟨_, rfl⟩
      obtain ⟨q, hq⟩ : ∃ q : Nat, q = d + 1 := ⟨_, rfl⟩
      have hdq : (d : Int) + 1 = (q : Int) := by omega
      have hrun := ten_run d q (by omega) hq
      have hdiv : (n : Int).tdiv 10 = (m : Int) := by rw [hm]; rfl
      have hmod : (n : Int).tmod 10 = (d : Int) := by rw [hdd]; rfl
      have HI : Hid (∀ w, Calls Try.prog 19 #[.int .i64 (m : Int)] w fun e w' => e = .returned (.string (bs (digN m))) ∧ ∃ k, w' = w.drewN k) := fun w => ih m (by omega) (by omega) w
      have hml : (digN m).length ≤ 20 := digN_short (Nat.lt_of_lt_of_le (show m < 9223372036854775808 by omega) (by decide))
      obtain ⟨cc, hc1, _, hc2⟩ := cat_var (bs (digN m)) (bs [dgB d]) (by rw [bs_size, bs_size]; simp; omega)
      have HX : Hid (cc = bs (digN n)) := by
        show _ = _
        refine byte_ext ?_
        rw [hc1, bs_list, bs_list, bs_list, digN_more h10, ← hm, ← hdd]
      have hwm : IntKind.i64.wrap (m : Int) = (m : Int) := (IntWalk.i64_left _).trans (by unfold wrap64; omega)
      have hwq : IntKind.i64.wrap (q : Int) = (q : Int) := (IntWalk.i64_left _).trans (by unfold wrap64; omega)
      generalize bs [dgB d] = cs at *
      generalize bs (digN m) = ms at *
      clear hq hm hdd ih hc1 hml
      go_enter Try.func19, Try.ntmps19
      go_wp2
      go_quiet ((go_at_call 19; refine Calls.quiet_of (v := .string ms) ?_; exact HI.out _))
      go_wp2
      go_ret
      rw [HX.out]
      exact ⟨rfl, _, rfl⟩

theorem two_cells {w : World} {base g n cap : Nat} {l : List Tk} (h : w.ownsRow base 28 4 (.slice (some ⟨g, 0, none⟩) n cap) n (rowCells l)) {a b : Tk} (hl : l = [a, b]) :
    (w.cell? ⟨g, 0, none⟩ = some (.int .i64 a.kind) ∧ w.cell? ⟨g, 1, none⟩ = some (.int .i64 a.num) ∧ w.cell? ⟨g, 2, none⟩ = some (.string (bs a.text)) ∧ w.cell? ⟨g, 3, none⟩ = some (.int .i64 (a.pl : Int))) ∧
    (w.cell? ⟨g, 4, none⟩ = some (.int .i64 b.kind) ∧ w.cell? ⟨g, 5, none⟩ = some (.int .i64 b.num) ∧ w.cell? ⟨g, 6, none⟩ = some (.string (bs b.text)) ∧ w.cell? ⟨g, 7, none⟩ = some (.int .i64 (b.pl : Int))) := by
  subst hl
  exact ⟨owned_tk h (k := 0) rfl, owned_tk h (k := 1) rfl⟩
set_option maxRecDepth 20000 in
set_option maxHeartbeats 4000000 in
theorem digits_walk (z : Int) (w : World) (hz : (Lit.int .i64 z).wf = true) :
    Calls Try.prog 8 #[.int .i64 z] w fun e w' => e = .returned (.bool true) ∧ Below w.heap.size w w' := by
  have hr : -9223372036854775808 ≤ z ∧ z < 9223372036854775808 := by
    simp only [Lit.wf, Bool.and_eq_true, decide_eq_true_eq] at hz
    have h1 : IntKind.i64.min = -9223372036854775808 := by decide
    have h2 : IntKind.i64.max = 9223372036854775807 := by decide
    rw [h1, h2] at hz
    omega
  have HA : Hid (∀ w, Calls Try.prog 12 #[] w fun e w' => e = .returned (.bool true) ∧ Below w.heap.size w w') := fun w => awake_calls w
  clear hz
  by_cases hneg : z < 0
  · have hd : decide (z < 0) = true := by simpa using hneg
    go_enter Try.func8, Try.ntmps8
    go_wp2_with fail
    refine (HA.out _).mono ?_
    rintro e w1 ⟨rfl, hb1⟩
    go_wp2
    go_ret
    exact ⟨rfl, hb1⟩
  obtain ⟨n, rfl⟩ : ∃ n : Nat, z = (n : Int) := ⟨z.toNat, by omega⟩
  have hd : decide ((n : Int) < 0) = false := by simp
  have hn : n < 9223372036854775808 := by omega
  have hn20 : n < 10 ^ 20 := Nat.lt_of_lt_of_le hn (by decide)
  have HD : Hid (∀ w, Calls Try.prog 19 #[.int .i64 (n : Int)] w fun e w' => e = .returned (.string (bs (digN n))) ∧ ∃ k, w' = w.drewN k) := fun w => digits_calls n hn w
  have hsz : (bs (digN n)).size ≤ 20 := by rw [bs_size]; exact digN_short hn20
  obtain ⟨cc, hc1, _, hc2⟩ := cat_var ⟨#[32, 48]⟩ (bs (digN n)) (by have : (⟨#[32, 48]⟩ : ByteArray).size = 2 := rfl; omega)
  have hcd : cc.data.toList = 32 :: 48 :: digN n := by rw [hc1, bs_list]; rfl
  have HS2 : Hid (∀ w, Calls Try.prog 9 #[.string cc] w fun e w' => ScanPost ([], 1, 61) w e w') := fun w => by
    have h := scan_calls cc w
    rw [hcd, scan_nought hn20] at h; exact h
  have HS1 : Hid (∀ w, Calls Try.prog 9 #[.string (bs (digN n))] w fun e w' => ScanPost (if n ≤ maxC then ([⟨2, n, [], 0⟩, endTk (digN n).length], 0, 0) else ([], 0, 61)) w e w') := fun w => by
    have h := scan_calls (bs (digN n)) w
    rw [bs_list, scan_digN hn20] at h; exact h
  have HL : Hid ((bs (digN n)).size = (digN n).length) := bs_size _
  clear hc1 hcd hn20 hneg hr
  generalize (digN n).length = m at *
  generalize bs (digN n) = S at *
  go_enter Try.func8, Try.ntmps8
  go_wp2_with fail
  refine (HA.out _).mono ?_
  rintro e w1 ⟨rfl, hb1⟩
  have HB1 : Hid (Below w.heap.size w w1) := hb1
  clear hb1 HA
  go_wp2_with fail
  refine (HD.out _).mono ?_
  rintro e w2 ⟨rfl, k2, hw2⟩
  have HB2 : Hid (Below w.heap.size w w2) := by
    show Below _ _ _
    rw [hw2]; exact below_drewN HB1.out k2
  clear hw2 HB1 HD
  go_wp2_with fail
  refine (HS1.out _).mono ?_
  rintro e w3 ⟨v, rfl, ho3, hb3⟩
  have HB3 : Hid (Below w.heap.size w w3) := HB2.out.trans (hb3.mono HB2.out.size)
  clear hb3 HB2 HS1
  by_cases hmax : n ≤ maxC
  · rw [if_pos hmax] at ho3 ⊢
    simp only at ho3 ⊢
    obtain ⟨g, cap, rfl, hbg, hlc, _, hgs⟩ := owned_some ho3 (by simp)
    have HO3 : Hid (w3.ownsRow w2.heap.size 28 4 (.slice (some ⟨g, 0, none⟩) 2 cap) 2 (rowCells [⟨2, n, [], 0⟩, endTk m])) := ho3
    have hl2 : ([⟨2, n, [], 0⟩, endTk m] : List Tk).length = 2 := rfl
    rw [hl2] at hlc ⊢
    clear ho3 hl2
    go_wp2_with fail
    refine (HS2.out _).mono ?_
    rintro e w4 ⟨v4, rfl, ho4, hb4⟩
    obtain ⟨ao4, c4, rfl⟩ := owned_shape ho4
    have HB4 : Hid (Below w.heap.size w w4) := HB3.out.trans (hb4.mono HB3.out.size)
    obtain ⟨⟨a0, a1, a2, a3⟩, ⟨b0, b1, b2, b3⟩⟩ := two_cells (owned_below HO3.out hb4) rfl
    unfold maxC at hmax
    have hgt : decide ((72057594037927936 : Int) < (n : Int)) = false := by simp; omega
    have hgd := guard28
    have a2' : w4.cell? ⟨g, 2, none⟩ = some (.string ⟨#[]⟩) := a2
    have a3' : w4.cell? ⟨g, 3, none⟩ = some (.int .i64 0) := a3
    have b0' : w4.cell? ⟨g, 4, none⟩ = some (.int .i64 1) := b0
    have b1' : w4.cell? ⟨g, 5, none⟩ = some (.int .i64 0) := b1
    have b2' : w4.cell? ⟨g, 6, none⟩ = some (.string ⟨#[]⟩) := b2
    have b3' : w4.cell? ⟨g, 7, none⟩ = some (.int .i64 (m : Int)) := b3
    have hSm : (S.size : Int) = (m : Int) := by rw [HL.out]
    clear ho4 hb4 HB3 HS2 HO3 a2 a3 b0 b1 b2 b3
    go_wp2
    go_ret
    exact ⟨rfl, HB4.out⟩
  · rw [if_neg hmax] at ho3 ⊢
    obtain ⟨ao3, c3, rfl⟩ := owned_shape ho3
    clear ho3
    go_wp2_with fail
    refine (HS2.out _).mono ?_
    rintro e w4 ⟨v4, rfl, ho4, hb4⟩
    obtain ⟨ao4, c4, rfl⟩ := owned_shape ho4
    have HB4 : Hid (Below w.heap.size w w4) := HB3.out.trans (hb4.mono HB3.out.size)
    unfold maxC at hmax
    have hgt : decide ((72057594037927936 : Int) < (n : Int)) = true := by simp; omega
    clear ho4 hb4 HB3 HS2
    go_wp2
    go_ret
    exact ⟨rfl, HB4.out⟩

namespace lexDigits
open Go.ChangeShapes Go.WideShapes Go.ChangeAt Go.RowKit
open Go.ChangeMaps (open_string shut_string)
theorem own : ownKnob Try.prog.godebug = none := by kernel_rfl

set_option maxRecDepth 100000 in
theorem lifted (os : Os) (started : os.Started) (H : Type) (enc : TypeId × Value → H) :
    ReturnsInHanded {} Try.checked os 8 .any (Rows.lexDigitsSpec.pre6 enc Try.prog Try.f8 Rows.lexDigitsRow.domain false) (Rows.lexDigitsSpec.post enc Try.prog Try.f8 false true false false) := by
  refine returnsInHanded_of_change (C := Try.checked) own started (by kernel_rfl) Try.func8
    (ChangeSpec.witness6 (enc := enc) (C := Try.checked) false ⟨#[], #[.int .i64 0], []⟩ 8 (by kernel_rfl) (by kernel_rfl) (by kernel_rfl) (by kernel_rfl)) ?_
  intro W base args ds gs before hval0 hW _ _
  have hval : ∀ (j : Nat) t v, Try.f8.params[j]? = some t → args[j]? = some v → Value.okWide Try.prog W .any base t v := hval0
  have hW' := hW
  obtain ⟨p, q, hA0, hV, rfl, hfz, hnd⟩ := hW
  have hA : DataW.TrodAll enc Try.prog W 0 (fun _ => true) true Try.f8.params.toList args.toList ds p := hA0
  rw [Try.params8] at hA hval
  obtain ⟨v0, vs0, d0, ds0, p0, q0, hargs, rfl, rfl, h0, r0⟩ := trodAll_cons hA
  obtain ⟨rfl, rfl, rfl⟩ := trodAll_nil r0
  obtain rfl : args = #[v0] := by cases args; simp_all
  obtain ⟨rfl, rfl⟩ := trodVars_none hV
  obtain ⟨a0, rfl, rfl, rfl, w0⟩ := open_int Try.underlying3 (hval 0 3 v0 rfl rfl) h0
  clear hA0 hval0
  refine (digits_walk a0 W w0).mono fun e W' ⟨he, bel⟩ => ?_
  subst he
  exact ⟨_, rfl, _, _, _, [], _, [], hW', trodAll_mk1 (shut_bool Try.underlying4 _), (trodAll_cons_mk (shut_int Try.underlying3 w0) trodAll_mk0), rfl, bel.frame _, fun h => by cases h⟩
end lexDigits

theorem lexDigits_holds : Rows.LexDigitsSaid :=
  OpenClaim.holds_of_wide 8 Try.f8 rfl rfl rfl rfl rfl rfl rfl ⟨rfl, rfl, rfl, rfl, rfl⟩ rfl rfl rfl rfl rfl (by kernel_rfl) Try.func8 (by kernel_rfl)
    (of_decide_eq_true (by kernel_rfl)) (by unfold Func.isWrapper; first | (rw [if_pos (by decide +kernel)]; kernel_rfl) | (rw [if_neg (by decide +kernel)]; exact ⟨rfl, rfl⟩))
    (fun os started H enc _ => lexDigits.lifted os started H enc)
end Go.Proofs.Ytjhbofnfaidhfaa
