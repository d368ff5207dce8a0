/-
  SyntaxNested is proved for every input: an expression of so many signs and brackets is as deep as its signs and one more, and too deep from 32 signs on. No condition.
-/
import Derived.Test.YtnnmhmlebffacabRows
import Derived.Test.YtnnmhmlebffacabCat
import Derived.Test.YtnnmhmlebffacabNest
import Derived.Test.YtnnmhmlebffacabAwk
import Derived.WalkKit
import Derived.ProofKit
import Derived.OpenShut
import Derived.ShutString
import Derived.ChangeOld
import Derived.Below
namespace Go.Proofs.Ytnnmhmlebffacab
open Go.RowKit Go.Deep

theorem guard28 : Try.prog.eqGuardType Try.prog.depth 28 = false := by kernel_rfl
theorem more_one (l : List UInt8) (k : Nat) (c : UInt8) : (l ++ List.replicate k c) ++ [c] = l ++ List.replicate (k + 1) c := by
  rw [List.append_assoc, List.replicate_succ']
theorem ns_two {S : Nat → Prop} {w : World} {a b : Nat} {ao : Option Addr} {n : Nat} (h : ItsAt true S w (nsI a b) ao n) : n = 2 ∧ ∃ g off ka kn kc, ao = some ⟨g, off, none⟩ ∧
    w.cell? ⟨g, off + 4 + 2, none⟩ = some (.slice ka kn kc) ∧ kn = 1 ∧ ∃ g5 o5 k5 n5 c5, ka = some ⟨g5, o5, none⟩ ∧ CellsAt w g5 o5 (exCells (nsE a b).1 k5 n5 c5) ∧ ExAt true S w (nsE a b) k5 n5 := by
  have hn := itsAt_len h
  refine ⟨hn, ?_⟩
  obtain ⟨g, off, ka, kn, kc, m, _, ha, _, _, _, _, _, _, hr⟩ := h
  obtain ⟨g', off', ka, kn, kc, m', _, ha', _, _, _, _, hc, hF, _⟩ := hr
  cases ha'
  refine ⟨g, off, ka, kn, kc, ha, hc 2 _ rfl, foAt_len hF, ?_⟩
  obtain ⟨g5, o5, k5, n5, c5, m5, _, ha5, _, _, hok, hkn, hc5, hk5, _⟩ := hF
  exact ⟨g5, o5, k5, n5, c5, ha5, hc5, hok, hkn, hk5⟩
set_option maxRecDepth 20000 in
set_option maxHeartbeats 8000000 in
theorem nested_out (a b : Int) (w : World) (h : (decide (a < 0) = true) ∨ (decide (a < 0) = false ∧ decide ((300 : Int) < a) = true) ∨ (decide (a < 0) = false ∧ decide ((300 : Int) < a) = false ∧ decide (b < 0) = true) ∨ (decide (a < 0) = false ∧ decide ((300 : Int) < a) = false ∧ decide (b < 0) = false ∧ decide ((300 : Int) < b) = true)) :
    Calls Try.prog 3 #[.int .i64 a, .int .i64 b] w fun e w' => e = .returned (.bool true) ∧ Below w.heap.size w w' := by
  have HA : Hid (∀ w, Calls Try.prog 4 #[] w fun e w' => e = .returned (.bool true) ∧ Below w.heap.size w w') := fun w => awake_calls w
  rcases h with h1 | ⟨h1, h2⟩ | ⟨h1, h2, h3⟩ | ⟨h1, h2, h3, h4⟩ <;> (
    go_enter Try.func3, Try.ntmps3
    go_wp2_with fail
    refine (HA.out _).mono ?_
    rintro e w1 ⟨rfl, hb1⟩
    have HB1 : Hid (Below w.heap.size w w1) := hb1
    clear hb1 HA
    go_wp2
    go_ret
    exact ⟨rfl, HB1.out⟩)
set_option maxRecDepth 20000 in
set_option maxHeartbeats 8000000 in
theorem nested_in (a b : Nat) (w : World) (ha : a ≤ 300) (hb : b ≤ 300) :
    Calls Try.prog 3 #[.int .i64 (a : Int), .int .i64 (b : Int)] w fun e w' => e = .returned (.bool true) ∧ Below w.heap.size w w' := by
  have HA : Hid (∀ w, Calls Try.prog 4 #[] w fun e w' => e = .returned (.bool true) ∧ Below w.heap.size w w') := fun w => awake_calls w
  have i1 : decide ((a : Int) < 0) = false := by simp
  have i2 : decide ((300 : Int) < (a : Int)) = false := by simp; omega
  have i3 : decide ((b : Int) < 0) = false := by simp
  have i4 : decide ((300 : Int) < (b : Int)) = false := by simp; omega
  have hgd := guard28
  go_enter Try.func3, Try.ntmps3
  go_wp2_with fail
  refine (HA.out _).mono ?_
  rintro e w1 ⟨rfl, hb1⟩
  have HB1 : Hid (Below w.heap.size w w1) := hb1
  clear hb1 HA
  go_wp2_with fail
  go_loopw [6, 7] (fun s i wr => ∃ (k : Nat) (c : ByteArray), k ≤ a ∧ i = .int .i64 (k : Int) ∧ s = .string c ∧ c.size = 15 + k ∧ Hid (c.data.toList = nsPre ++ List.replicate k 45) ∧ Hid (Below w.heap.size w wr)) (fun _ i _ => a - (intOf i).toNat)
  case atStart => exact ⟨0, _, by omega, rfl, rfl, rfl, rfl, HB1.out⟩
  case round =>
    clear HB1
    obtain ⟨k, c, hk, rfl, rfl, hcz, HC, HB1⟩ := hrel
    by_cases hlt : k < a
    · have hdk : decide ((k : Int) < (a : Int)) = true := by simp; omega
      obtain ⟨c1, d1, n1, e1⟩ := cat_var c ⟨#[45]⟩ (by rw [show (⟨#[45]⟩ : ByteArray).size = 1 from rfl]; omega)
      have n1' : c1.size = 15 + (k + 1) := by rw [n1, show (⟨#[45]⟩ : ByteArray).size = 1 from rfl]; omega
      have HC1 : Hid (c1.data.toList = nsPre ++ List.replicate (k + 1) 45) := by
        show _ = _
        rw [d1, HC.out, ← more_one]
      clear d1 n1 HC
      go_wp2_with fail
      go_roundw
      case rel => exact ⟨k + 1, c1, by omega, by go_num, rfl, n1', HC1.out, HB1.out⟩
      case measure => simp [intOf]; omega
    have hdk : decide ((k : Int) < (a : Int)) = false := by simp; omega
    have hka : k = a := by omega
    have HC2 : Hid (c.data.toList = nsPre ++ List.replicate a 45) := by rw [← hka]; exact HC
    have hcz2 : c.size = 15 + a := by omega
    clear HC hcz hka
    go_wp2_with fail
    go_loopw [6, 8] (fun s i wr => ∃ (j : Nat) (c : ByteArray), j ≤ b ∧ i = .int .i64 (j : Int) ∧ s = .string c ∧ c.size = 15 + a + j ∧ Hid (c.data.toList = (nsPre ++ List.replicate a 45) ++ List.replicate j 40) ∧ Hid (Below w.heap.size w wr)) (fun _ i _ => b - (intOf i).toNat)
    case atStart => exact ⟨0, _, by omega, rfl, rfl, hcz2, by rw [List.replicate_zero, List.append_nil]; exact HC2.out, HB1.out⟩
    case round =>
      clear HB1 HC2 hcz2 hlt hdk
      obtain ⟨j, c, hj, rfl, rfl, hcz, HC, HB1⟩ := hrel
      by_cases hlt : j < b
      · have hdj : decide ((j : Int) < (b : Int)) = true := by simp; omega
        obtain ⟨c1, d1, n1, e1⟩ := cat_var c ⟨#[40]⟩ (by rw [show (⟨#[40]⟩ : ByteArray).size = 1 from rfl]; omega)
        have n1' : c1.size = 15 + a + (j + 1) := by rw [n1, show (⟨#[40]⟩ : ByteArray).size = 1 from rfl]; omega
        have HC1 : Hid (c1.data.toList = (nsPre ++ List.replicate a 45) ++ List.replicate (j + 1) 40) := by
          show _ = _
          rw [d1, HC.out, ← more_one]
        clear d1 n1 HC
        go_wp2_with fail
        go_roundw
        case rel => exact ⟨j + 1, c1, by omega, by go_num, rfl, n1', HC1.out, HB1.out⟩
        case measure => simp [intOf]; omega
      have hdj : decide ((j : Int) < (b : Int)) = false := by simp; omega
      have hjb : j = b := by omega
      obtain ⟨c1, d1, n1, e1⟩ := cat_var c ⟨#[55]⟩ (by rw [show (⟨#[55]⟩ : ByteArray).size = 1 from rfl]; omega)
      have n1' : c1.size = 16 + a + b := by rw [n1, show (⟨#[55]⟩ : ByteArray).size = 1 from rfl]; omega
      have HC1 : Hid (c1.data.toList = ((nsPre ++ List.replicate a 45) ++ List.replicate b 40) ++ [55]) := by
        show _ = _
        rw [d1, HC.out, hjb]
      clear d1 n1 HC hcz hjb
      go_wp2_with fail
      go_loopw [6, 9] (fun s i wr => ∃ (j : Nat) (c : ByteArray), j ≤ b ∧ i = .int .i64 (j : Int) ∧ s = .string c ∧ c.size = 16 + a + b + j ∧ Hid (c.data.toList = (((nsPre ++ List.replicate a 45) ++ List.replicate b 40) ++ [55]) ++ List.replicate j 41) ∧ Hid (Below w.heap.size w wr)) (fun _ i _ => b - (intOf i).toNat)
      case atStart => exact ⟨0, _, by omega, rfl, rfl, n1', by rw [List.replicate_zero, List.append_nil]; exact HC1.out, HB1.out⟩
      case round =>
        clear HB1 HC1 n1' hlt hdj
        obtain ⟨j, c, hj, rfl, rfl, hcz, HC, HB1⟩ := hrel
        by_cases hlt : j < b
        · have hdj : decide ((j : Int) < (b : Int)) = true := by simp; omega
          obtain ⟨c1, d1, n1, e1⟩ := cat_var c ⟨#[41]⟩ (by rw [show (⟨#[41]⟩ : ByteArray).size = 1 from rfl]; omega)
          have n1' : c1.size = 16 + a + b + (j + 1) := by rw [n1, show (⟨#[41]⟩ : ByteArray).size = 1 from rfl]; omega
          have HC1 : Hid (c1.data.toList = (((nsPre ++ List.replicate a 45) ++ List.replicate b 40) ++ [55]) ++ List.replicate (j + 1) 41) := by
            show _ = _
            rw [d1, HC.out, ← more_one]
          clear d1 n1 HC
          go_wp2_with fail
          go_roundw
          case rel => exact ⟨j + 1, c1, by omega, by go_num, rfl, n1', HC1.out, HB1.out⟩
          case measure => simp [intOf]; omega
        have hdj : decide ((j : Int) < (b : Int)) = false := by simp; omega
        have hjb : j = b := by omega
        obtain ⟨c1, d1, n1, e1⟩ := cat_var c ⟨#[59]⟩ (by rw [show (⟨#[59]⟩ : ByteArray).size = 1 from rfl]; omega)
        have hS : c1.data.toList = nsB a b := by
          rw [d1, HC.out, hjb]
          simp [nsB]
        have HP : Hid (∀ w, Calls Try.prog 5 #[.string c1] w fun e w' => TreePost (if 32 ≤ a then ([], 71, 9) else (nsI a b, 0, 0)) w e w') := fun w => by
          have := parse_calls c1 w
          rw [hS, ns_parse ha hb] at this
          exact this
        clear d1 n1 HC hcz hjb hS
        by_cases h32 : 32 ≤ a
        · rw [if_pos h32] at HP
          have hd32 : decide ((32 : Int) ≤ (a : Int)) = true := by simp; omega
          go_wp2_with fail
          refine (HP.out _).mono ?_
          rintro e w3 ⟨a1, m1, k1, rfl, hm1, hI1, hb3⟩
          have HB3 : Hid (∀ o o', Below w.heap.size w ((w3.alloc o).alloc o')) := fun o o' => by
            have h1 := HB1.out.trans (hb3.mono HB1.out.size)
            exact h1.trans ((((Below.refl _ _).alloc (Nat.le_refl _) o).alloc (by simp) o').mono h1.size)
          clear hI1 hb3 HP
          simp only
          go_wp2
          go_ret
          exact ⟨rfl, HB3.out _ _⟩
        · rw [if_neg h32] at HP
          have hd32 : decide ((32 : Int) ≤ (a : Int)) = false := by simp; omega
          go_wp2_with fail
          refine (HP.out _).mono ?_
          rintro e w3 ⟨a1, m1, k1, rfl, hm1, hI1, hb3⟩
          simp only at hI1
          obtain ⟨rfl, g, off, ka, kn, kc, rfl, c2, rfl, g5, o5, k5, n5, c5, rfl, hc5, hE⟩ := ns_two hI1
          have hx : ∀ o o', Below w3.heap.size w3 ((w3.alloc o).alloc o') := fun o o' => ((Below.refl _ _).alloc (Nat.le_refl _) o).alloc (by simp) o'
          have HB3 : Hid (∀ o o', Below w.heap.size w ((w3.alloc o).alloc o')) := fun o o' => by
            have h1 := HB1.out.trans (hb3.mono HB1.out.size)
            exact h1.trans ((hx o o').mono h1.size)
          have c2' := fun o o' => keepc (hx o o') c2
          have y0 := fun o o' => keepc (hx o o') (hc5 0 _ rfl)
          have y1 := fun o o' => keepc (hx o o') (hc5 1 _ rfl)
          have y2 := fun o o' => keepc (hx o o') (hc5 2 _ rfl)
          have y3 := fun o o' => keepc (hx o o') (hc5 3 _ rfl)
          have y4 := fun o o' => keepc (hx o o') (hc5 4 _ rfl)
          simp only [Nat.add_zero] at y0
          have HD : Hid (∀ o o', Calls Try.prog 6 #[.agg #[.int .i64 (nsE a b).1.kind, .int .i64 (nsE a b).1.num, .string (bs (nsE a b).1.text), .slice k5 n5 c5, .int .i64 (nsE a b).1.pl]] ((w3.alloc o).alloc o') fun e' w' => e' = .returned (.int .i64 ((a : Int) + 1)) ∧ Below w.heap.size w w') := fun o o' => by
            have := depth_calls _ (nsE a b) k5 n5 c5 ((w3.alloc o).alloc o') true _ (hE.below (hx o o')) (Nat.lt_succ_self _)
            rw [ns_depth ha] at this
            exact this.mono fun e' w' ⟨h1, h2⟩ => ⟨h1, (HB3.out o o').trans (h2.mono (HB3.out o o').size)⟩
          clear hI1 hb3 HP c2 hc5 hE hx
          generalize (nsE a b).1 = hd at *
          simp only
          go_wp2_with fail
          refine (HD.out _ _).mono ?_
          rintro e w4 ⟨rfl, hb4⟩
          have HB4 : Hid (Below w.heap.size w w4) := hb4
          clear hb4 HD c2' y0 y1 y2 y3 y4
          go_wp2
          go_ret
          exact ⟨rfl, HB4.out⟩
theorem nested_walk (a b : Int) (w : World) (_ : (Lit.int .i64 a).wf = true) (_ : (Lit.int .i64 b).wf = true) :
    Calls Try.prog 3 #[.int .i64 a, .int .i64 b] w fun e w' => e = .returned (.bool true) ∧ Below w.heap.size w w' := by
  by_cases h : 0 ≤ a ∧ a ≤ 300 ∧ 0 ≤ b ∧ b ≤ 300
  · have := nested_in a.toNat b.toNat w (by omega) (by omega)
    rw [show ((a.toNat : Nat) : Int) = a by omega, show ((b.toNat : Nat) : Int) = b by omega] at this
    exact this
  · refine nested_out a b w ?_
    by_cases h1 : a < 0
    · exact .inl (by simpa using h1)
    by_cases h2 : (300 : Int) < a
    · exact .inr (.inl ⟨by simpa using h1, by simpa using h2⟩)
    by_cases h3 : b < 0
    · exact .inr (.inr (.inl ⟨by simpa using h1, by simpa using h2, by simpa using h3⟩))
    · exact .inr (.inr (.inr ⟨by simpa using h1, by simpa using h2, by simpa using h3, by simp; omega⟩))

namespace syntaxNested
open Go.ChangeShapes Go.WideShapes Go.ChangeAt Go.RowKit
open Go.ChangeMaps (open_string shut_string)
theorem own : ownKnob Try.prog.godebug = none := by kernel_rfl

set_option maxRecDepth 100000 in
theorem lifted (os : Os) (started : os.Started) (H : Type) (enc : TypeId × Value → H) :
    ReturnsInHanded {} Try.checked os 3 .any (Rows.syntaxNestedSpec.pre6 enc Try.prog Try.f3 Rows.syntaxNestedRow.domain false) (Rows.syntaxNestedSpec.post enc Try.prog Try.f3 false true false false) := by
  refine returnsInHanded_of_change (C := Try.checked) own started (by kernel_rfl) Try.func3
    (ChangeSpec.witness6 (enc := enc) (C := Try.checked) false ⟨#[], #[.int .i64 0, .int .i64 0], []⟩ 8 (by kernel_rfl) (by kernel_rfl) (by kernel_rfl) (by kernel_rfl)) ?_
  intro W base args ds gs before hval0 hW _ _
  have hval : ∀ (j : Nat) t v, Try.f3.params[j]? = some t → args[j]? = some v → Value.okWide Try.prog W .any base t v := hval0
  have hW' := hW
  obtain ⟨p, q, hA0, hV, rfl, hfz, hnd⟩ := hW
  have hA : DataW.TrodAll enc Try.prog W 0 (fun _ => true) true Try.f3.params.toList args.toList ds p := hA0
  rw [Try.params3] at hA hval
  obtain ⟨v0, vs0, d0, ds0, p0, q0, hargs, rfl, rfl, h0, r0⟩ := trodAll_cons hA
  obtain ⟨v1, vs1, d1, ds1, p1, q1, rfl, rfl, rfl, h1, r1⟩ := trodAll_cons r0
  obtain ⟨rfl, rfl, rfl⟩ := trodAll_nil r1
  obtain rfl : args = #[v0, v1] := by cases args; simp_all
  obtain ⟨rfl, rfl⟩ := trodVars_none hV
  obtain ⟨a0, rfl, rfl, rfl, w0⟩ := open_int Try.underlying3 (hval 0 3 v0 rfl rfl) h0
  obtain ⟨a1, rfl, rfl, rfl, w1⟩ := open_int Try.underlying3 (hval 1 3 v1 rfl rfl) h1
  clear hA0 hval0
  refine (nested_walk a0 a1 W w0 w1).mono fun e W' ⟨he, bel⟩ => ?_
  subst he
  exact ⟨_, rfl, _, _, _, [], _, [], hW', trodAll_mk1 (shut_bool Try.underlying4 _), (trodAll_cons_mk (shut_int Try.underlying3 w0) (trodAll_cons_mk (shut_int Try.underlying3 w1) trodAll_mk0)), rfl, bel.frame _, fun h => by cases h⟩
end syntaxNested

theorem syntaxNested_holds : Rows.SyntaxNestedSaid :=
  OpenClaim.holds_of_wide 3 Try.f3 rfl rfl rfl rfl rfl rfl rfl ⟨rfl, rfl, rfl, rfl, rfl⟩ rfl rfl rfl rfl rfl (by kernel_rfl) Try.func3 (by kernel_rfl)
    (of_decide_eq_true (by kernel_rfl)) (by unfold Func.isWrapper; first | (rw [if_pos (by decide +kernel)]; kernel_rfl) | (rw [if_neg (by decide +kernel)]; exact ⟨rfl, rfl⟩))
    (fun os started H enc _ => syntaxNested.lifted os started H enc)
end Go.Proofs.Ytnnmhmlebffacab
