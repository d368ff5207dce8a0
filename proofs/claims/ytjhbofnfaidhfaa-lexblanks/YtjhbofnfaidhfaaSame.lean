/-
  The walks of the statements' own same and awake.
-/
import Derived.Test.YtjhbofnfaidhfaaScan
import Derived.Test.YtjhbofnfaidhfaaPlain2
import Derived.Lib.OthersKept
namespace Go.Proofs.Ytjhbofnfaidhfaa
open Go.RowKit

theorem drewN_add (w : World) (a b : Nat) : (w.drewN a).drewN b = w.drewN (a + b) := by
  induction b with
  | zero => rfl
  | succ b ih => show ((w.drewN a).drewN b).drew = (w.drewN (a + b)).drew; rw [ih]
theorem guard28 : Try.prog.eqGuardType Try.prog.depth 28 = false := by kernel_rfl
theorem fields28 : Try.prog.underlying 28 = some (.struct (Try.prog.fieldsOf 28)) := by kernel_rfl
theorem held28 : Try.prog.stoodInHeld 28 = false := by kernel_rfl
theorem equal_tk (k n y : Int) (x : ByteArray) (W : World) : (Op.equalIn 10000 28 (.agg #[.int .i64 k, .int .i64 n, .string x, .int .i64 y]) (.agg #[.int .i64 k, .int .i64 n, .string x, .int .i64 y])).run Try.prog W = .ok true W := by
  rw [show (10000 : Nat) = 9999 + 1 from rfl, run_equalIn_agg W 9999 28 _ _ fields28 held28]
  simp only [Program.fieldsOf, Try.underlying28]
  go_simp

set_option maxHeartbeats 1000000 in
theorem same_calls (ao bo : Option Addr) (n ca cb : Nat) (l : List Tk) (w : World) (ha : TksAt w ao n l) (hb : TksAt w bo n l) :
    Calls Try.prog 11 #[.slice ao n ca, .slice bo n cb] w fun e w' => e = .returned (.bool true) ∧ ∃ k, w' = w.drewN k := by
  have hm := ha.short
  unfold maxLen at hm
  have HLa : Hid (l.length = n) := ha.length
  have HA : Hid (TksAt w ao n l) := ha
  have HB : Hid (TksAt w bo n l) := hb
  clear ha hb
  have hd : ((n : Int) != (n : Int)) = false := by simp
  go_enter Try.func11, Try.ntmps11
  go_wp2
  go_loopw [5] (fun i wr => ∃ k j : Nat, k ≤ n ∧ i = .int .i64 k ∧ wr = w.drewN j) (fun i _ => n - (intOf i).toNat)
  case atStart => exact ⟨0, 0, Nat.zero_le _, rfl, rfl⟩
  case round =>
    obtain ⟨k, j, hk, rfl, hwr⟩ := hrel
    have HW : Hid (wr = w.drewN j) := hwr
    have hbel : Below w.heap.size w wr := by rw [hwr]; exact below_drewN (Below.refl _ _) j
    clear hwr
    by_cases hlt : k < n
    · obtain ⟨b1, o1, rfl, hc1⟩ := (HA.out.below hbel).cells (by omega)
      obtain ⟨b2, o2, rfl, hc2⟩ := (HB.out.below hbel).cells (by omega)
      obtain ⟨q, hq⟩ : ∃ q, l[k]? = some q := ⟨_, List.getElem?_eq_getElem (by rw [HLa.out]; exact hlt)⟩
      obtain ⟨x1, x2, x3, x4⟩ := hc1 k q hq
      obtain ⟨y1, y2, y3, y4⟩ := hc2 k q hq
      have hgd := guard28
      have heqn := equal_tk q.kind q.num (q.pl : Int) (bs q.text)
      generalize q.kind = qk at *
      generalize q.num = qn at *
      generalize bs q.text = qt at *
      generalize q.pl = qp at *
      clear hc1 hc2 hq hbel
      go_wp2_with fail
      go_quiet (fail)
      have HW2 : Hid (∃ i, wr.drewN nq = w.drewN i) := ⟨j + nq, by rw [HW.out]; exact drewN_add w j nq⟩
      generalize wr.drewN nq = wz at *
      clear heqn
      go_wp2
      go_roundw
      case rel =>
        obtain ⟨i, hi⟩ := HW2.out
        exact ⟨k + 1, i, by omega, by go_num, hi⟩
      case measure => simp [intOf]; omega
    · go_wp2
      go_ret
      exact ⟨rfl, j, HW.out⟩

def awL : List Tk := [⟨4, 0, [98, 97, 110, 100], 0⟩, ⟨6, 0, [45], 5⟩, ⟨2, 3, [], 6⟩, ⟨6, 0, [46, 46], 7⟩, ⟨2, 4, [], 9⟩, ⟨1, 0, [], 10⟩]
theorem aw_scan : scanB [98, 97, 110, 100, 32, 45, 51, 46, 46, 52] = (awL, 0, 0) := by kernel_rfl
theorem aw_wrong : scanB [97, 32, 46, 32, 98] = ([], 2, 60) := by kernel_rfl
theorem aw_new (W : World) : TksAt (W.alloc (.cells (rowCells awL).toArray 28 (0, 0))) (some ⟨W.heap.size, 0, none⟩) 6 awL := by
  refine ⟨rfl, by decide, fun t ht => scan_ok [98, 97, 110, 100, 32, 45, 51, 46, 46, 52] t (by rw [aw_scan]; exact ht), fun _ => ⟨_, 0, rfl, fun i t hi => ?_⟩⟩
  have hc : ∀ j u, (tkCells t)[j]? = some u → (W.alloc (.cells (rowCells awL).toArray 28 (0, 0))).cell? ⟨W.heap.size, i * 4 + j, none⟩ = some u := fun j u hu => by
    rw [cell_of_row _ W.heap.size _ _ 28 (0, 0) (heap_alloc_new W _), ← Array.getElem?_toList]
    exact flat_get tk_len awL i t j u hi hu
  simp only [Nat.zero_add]
  exact ⟨hc 0 _ rfl, hc 1 _ rfl, hc 2 _ rfl, hc 3 _ rfl⟩

set_option maxRecDepth 20000 in
set_option maxHeartbeats 2000000 in
theorem awake_calls (w : World) :
    Calls Try.prog 12 #[] w fun e w' => e = .returned (.bool true) ∧ Below w.heap.size w w' := by
  have HS1 : Hid (∀ w, Calls Try.prog 9 #[.string ⟨#[98, 97, 110, 100, 32, 45, 51, 46, 46, 52]⟩] w fun e w' => ScanPost (awL, 0, 0) w e w') := fun w => by
    have h := scan_calls ⟨#[98, 97, 110, 100, 32, 45, 51, 46, 46, 52]⟩ w
    rw [show (⟨#[98, 97, 110, 100, 32, 45, 51, 46, 46, 52]⟩ : ByteArray).data.toList = [98, 97, 110, 100, 32, 45, 51, 46, 46, 52] from rfl, aw_scan] at h
    exact h
  have HS2 : Hid (∀ w, Calls Try.prog 9 #[.string ⟨#[97, 32, 46, 32, 98]⟩] w fun e w' => ScanPost ([], 2, 60) w e w') := fun w => by
    have h := scan_calls ⟨#[97, 32, 46, 32, 98]⟩ w
    rw [show (⟨#[97, 32, 46, 32, 98]⟩ : ByteArray).data.toList = [97, 32, 46, 32, 98] from rfl, aw_wrong] at h
    exact h
  have HNew : Hid (∀ (W : World) (cs : Array Value), cs = (rowCells awL).toArray → TksAt (W.alloc (.cells cs 28 (0, 0))) (some ⟨W.heap.size, 0, none⟩) 6 awL) := fun W cs h => by subst h; exact aw_new W
  go_enter Try.func12, Try.ntmps12
  go_wp2_with fail
  refine (HS1.out _).mono ?_
  rintro e w1 ⟨v, rfl, hown, hb1⟩
  simp only at hown
  obtain ⟨g, cap, rfl, hbg, hlc, _, hgs⟩ := owned_some hown (by decide)
  have HT1 : Hid (TksAt w1 (some ⟨g, 0, none⟩) 6 awL) := owned_tks hown (fun t ht => scan_ok [98, 97, 110, 100, 32, 45, 51, 46, 46, 52] t (by rw [aw_scan]; exact ht))
  have HB1 : Hid (Below w.heap.size w w1) := hb1
  have hl3 : awL.length = 6 := rfl
  rw [hl3] at hlc ⊢
  clear hown hb1 hl3 HS1
  go_wp2_with fail
  refine (same_calls (some ⟨g, 0, none⟩) (some ⟨w1.heap.size, 0, none⟩) 6 cap 6 awL _ (HT1.out.below ((Below.refl _ _).alloc (Nat.le_refl _) _)) (HNew.out w1 _ rfl)).mono ?_
  rintro e w2 ⟨rfl, k, hw2⟩
  have HB2 : Hid (Below w.heap.size w w2) := by
    show Below _ _ _
    rw [hw2]; exact below_drewN (HB1.out.alloc HB1.out.size _) k
  clear hw2 HT1 HB1 HNew
  go_wp2_with fail
  refine (HS2.out _).mono ?_
  rintro e w3 ⟨v3, rfl, _, hb3⟩
  have HB3 : Hid (Below w.heap.size w w3) := HB2.out.trans (hb3.mono HB2.out.size)
  clear hb3 HB2 HS2
  go_wp2
  go_ret
  exact ⟨rfl, HB3.out⟩
end Go.Proofs.Ytjhbofnfaidhfaa
