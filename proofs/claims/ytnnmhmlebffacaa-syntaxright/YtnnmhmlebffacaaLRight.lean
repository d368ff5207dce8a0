/-
  SyntaxRight is proved for every input: what is taken is right. No condition.
-/
import Derived.Test.YtnnmhmlebffacaaRows
import Derived.WalkKit
import Derived.ProofKit
import Derived.OpenShut
import Derived.ShutString
import Derived.ChangeOld
import Derived.Below
import Derived.Test.YtnnmhmlebffacaaRgAll
namespace Go.Proofs.Ytnnmhmlebffacaa
open Go.RowKit Go.Deep

theorem guard27 : Try.prog.eqGuardType Try.prog.depth 27 = false := by kernel_rfl
set_option maxRecDepth 20000 in
set_option maxHeartbeats 4000000 in
theorem right_walk (s : ByteArray) (w : World) (_ : s.size ≤ maxLen) :
    Calls Try.prog 5 #[.string s] w fun e w' => e = .returned (.bool true) ∧ Below w.heap.size w w' := by
  have HA : Hid (∀ w, Calls Try.prog 13 #[] w fun e w' => e = .returned (.bool true) ∧ Below w.heap.size w w') := fun w => awake_calls w
  have HP1 : Hid (∀ w, Calls Try.prog 9 #[.string s] w fun e w' => TreePost (parseW s.data.toList) w e w') := fun w => parse_calls s w
  have hpr := parse_right s.data.toList
  rw [size_toList] at hpr
  generalize parseW s.data.toList = R1 at *
  obtain ⟨L, x, y⟩ := R1
  simp only at hpr
  by_cases hx : x = 0
  · subst hx
    obtain ⟨hy, hT, hL100, hpw, hall⟩ := hpr.2 rfl
    subst hy
    have HT : Hid (treeRight L = true ∧ sameI L L = true) := ⟨hT, sameI_refl L⟩
    have HL : Hid ((L.Pairwise fun a b => a.pl < b.pl) ∧ ∀ i ∈ L, 0 ≤ i.pl ∧ i.pl < s.size ∧ okArgs i.args) := ⟨hpw, hall⟩
    have q0 : ((0 : Int) != 0) = false := rfl
    have hgd := guard27
    clear hpr hT hpw hall
    go_enter Try.func5, Try.ntmps5
    go_wp2_with fail
    refine (HA.out _).mono ?_
    rintro e w1 ⟨rfl, hb1⟩
    have HB1 : Hid (Below w.heap.size w w1) := hb1
    clear hb1 HA
    go_wp2_with fail
    refine (HP1.out _).mono ?_
    rintro e w2 ⟨a1, n1, c1, rfl, hn1, hI1, hb2⟩
    simp only at hI1
    have hl1 := itsAt_len hI1
    have hln : L.length = n1 := hl1.symm
    clear hl1
    generalize hW3 : (w2.alloc (.cells #[.slice a1 n1 c1] 24)).alloc (.cells #[.int .i64 0, .int .i64 0] 27) = W3
    have h23 : Below w2.heap.size w2 W3 := by rw [← hW3]; exact ((Below.refl _ _).alloc (Nat.le_refl _) _).alloc (by simp) _
    have j4 : W3.heap[w2.heap.size]? = some (.cells #[.slice a1 n1 c1] 24 (0, 0)) := by rw [← hW3]; exact heap_old (heap_alloc_new w2 _)
    have j5 : W3.heap[w2.heap.size + 1]? = some (.cells #[.int .i64 0, .int .i64 0] 27 (0, 0)) := by
      rw [← hW3]
      have := heap_alloc_new (w2.alloc (.cells #[.slice a1 n1 c1] 24)) (.cells #[.int .i64 0, .int .i64 0] 27)
      rwa [show (w2.alloc (.cells #[.slice a1 n1 c1] 24)).heap.size = w2.heap.size + 1 by simp] at this
    have hB3 : Below w.heap.size w W3 := by
      have h1 := HB1.out.trans (hb2.mono HB1.out.size)
      exact h1.trans (h23.mono h1.size)
    have HS : Hid (Below w.heap.size w W3 ∧ W3.heap[w2.heap.size]? = some (.cells #[.slice a1 n1 c1] 24 (0, 0)) ∧ W3.heap[w2.heap.size + 1]? = some (.cells #[.int .i64 0, .int .i64 0] 27 (0, 0)) ∧ ItsAt true (fun g => w1.heap.size ≤ g) W3 L a1 n1) := ⟨hB3, j4, j5, hI1.below h23⟩
    have HW3 : Hid ((w2.alloc (.cells #[.slice a1 n1 c1] 24)).alloc (.cells #[.int .i64 0, .int .i64 0] 27) = W3) := hW3
    have HRi : Hid (Calls Try.prog 15 #[.agg #[.slice a1 n1 c1]] W3 fun e' w' => e' = .returned (.bool true) ∧ Below W3.heap.size W3 w') := by
      have h := right_calls L a1 n1 c1 W3 (hI1.below h23) (by unfold maxLen; omega)
      rw [HT.out.1] at h; exact h
    clear hI1 hb2 HB1 HP1 h23 j4 j5 hB3 hW3
    simp only
    go_wp2_with fail
    rw [HW3.out]
    refine HRi.out.mono ?_
    rintro e w4 ⟨rfl, hb4⟩
    have HS4 : Hid (Below w.heap.size w w4 ∧ w4.heap[w2.heap.size]? = some (.cells #[.slice a1 n1 c1] 24 (0, 0)) ∧ w4.heap[w2.heap.size + 1]? = some (.cells #[.int .i64 0, .int .i64 0] 27 (0, 0)) ∧ ItsAt true (fun g => w1.heap.size ≤ g) w4 L a1 n1) := by
      obtain ⟨a, b, c, d⟩ := HS.out
      exact ⟨a.trans (hb4.mono a.size), by rw [hb4.block _ (lt_block b)]; exact b, by rw [hb4.block _ (lt_block c)]; exact c, d.below hb4⟩
    have t4 := blk (i := 0) HS4.out.2.1 rfl
    have HSm : Hid (Calls Try.prog 16 #[.agg #[.slice a1 n1 c1], .agg #[.slice a1 n1 c1]] w4 fun e' w' => e' = .returned (.bool true) ∧ Below w4.heap.size w4 w') := by
      have h := same_calls L L a1 a1 n1 c1 n1 c1 w4 true true _ _ HS4.out.2.2.2 HS4.out.2.2.2 (by unfold maxLen; omega) (by unfold maxLen; omega)
      rw [HT.out.2] at h; exact h
    clear hb4 HS HRi HW3
    go_wp2_with fail
    refine HSm.out.mono ?_
    rintro e w5 ⟨rfl, hb5⟩
    have HS5 : Hid (Below w.heap.size w w5 ∧ w5.heap[w2.heap.size]? = some (.cells #[.slice a1 n1 c1] 24 (0, 0)) ∧ w5.heap[w2.heap.size + 1]? = some (.cells #[.int .i64 0, .int .i64 0] 27 (0, 0)) ∧ ItsAt true (fun g => w1.heap.size ≤ g) w5 L a1 n1) := by
      obtain ⟨a, b, c, d⟩ := HS4.out
      exact ⟨a.trans (hb5.mono a.size), by rw [hb5.block _ (lt_block b)]; exact b, by rw [hb5.block _ (lt_block c)]; exact c, d.below hb5⟩
    clear hb5 HS4 HSm t4
    obtain ⟨g, off, hka, hF'⟩ := itsAt_addr HS5.out.2.2.2
    have HF5 : Hid (ItsAt true (fun g => w1.heap.size ≤ g) w5 L (some ⟨g, off + 0 * 4, none⟩) (n1 - 0)) := hF'
    clear hF'
    go_wp2_with fail
    go_loopg [8] n1 (fun k iv wr => ∃ (L' : List It) (i : Nat), iv = .int .i64 (i : Int) ∧ i + k = n1 ∧ Hid (ItsAt true (fun g => w1.heap.size ≤ g) wr L' (some ⟨g, off + i * 4, none⟩) (n1 - i)) ∧ Hid ((L'.Pairwise fun a b => a.pl < b.pl) ∧ ∀ i ∈ L', 0 ≤ i.pl ∧ i.pl < s.size ∧ okArgs i.args) ∧ Hid (0 < i → ∃ p : Int, wr.cell? ⟨g, off + (i - 1) * 4 + 3, none⟩ = some (.int .i64 p) ∧ ∀ i ∈ L', p < i.pl) ∧ Hid (Below w.heap.size w wr ∧ wr.heap[w2.heap.size]? = some (.cells #[.slice a1 n1 c1] 24 (0, 0)) ∧ wr.heap[w2.heap.size + 1]? = some (.cells #[.int .i64 0, .int .i64 0] 27 (0, 0))))
    case atStart => exact ⟨L, 0, rfl, by omega, HF5.out, HL.out, (fun h => by omega), HS5.out.1, HS5.out.2.1, HS5.out.2.2.1⟩
    case round =>
      clear HF5 HL HS5
      obtain ⟨L', i, rfl, hik, HI, HL, HPv, HW⟩ := hrel
      have t4 := blk (i := 0) HW.out.2.1 rfl
      have hdk : decide ((i : Int) < (n1 : Int)) = decide (i < n1) := by rw [Bool.eq_iff_iff]; simp
      by_cases hi : i < n1
      · have hd1 : decide ((i : Int) < (n1 : Int)) = true := by simp; omega
        obtain ⟨it, r, ka, kc, kk, rfl, -, hok, hkc, ⟨x0, x1, x2, x3⟩, hk2, hr2⟩ := itsAt_head HI.out hi
        have hka2 := hka (by omega)
        subst hka2
        have hmem := HL.out.2 it (by simp)
        have e1 : decide (it.pl < (0 : Int)) = false := by simp; omega
        have e2 : decide ((s.size : Int) ≤ it.pl) = false := by simp; omega
        generalize wr = wo at *
        generalize gk = gq at *
        have hbx : ∀ o', Below wo.heap.size wo (wo.alloc o') := fun o' => (Below.refl _ _).alloc (Nat.le_refl _) o'
        have t4' := fun o' => keepc (hbx o') t4
        obtain ⟨g5, off5, hkb, hF5⟩ := foAt_addr hk2
        have hkm := hkc
        unfold maxLen at hkm
        have HI5 : Hid (FoAt true (fun g => w1.heap.size ≤ g) wo it.args (some ⟨g5, off5 + 0 * 5, none⟩) (kc - 0) ∧ okArgs it.args) := ⟨hF5, hmem.2.2⟩
        have HD : Hid (∀ (e : Ex) (ka : Option Addr) (kn kc : Nat) (w : World), ExAt true (fun g => w1.heap.size ≤ g) w e ka kn →
            Calls Try.prog 17 #[.agg #[.int .i64 e.1.kind, .int .i64 e.1.num, .string (bs e.1.text), .slice ka kn kc, .int .i64 e.1.pl]] w fun e' w' => e' = .returned (.int .i64 (wrap64 (depW e.2 + 1))) ∧ Below w.heap.size w w') := fun e ka kn kc w h1 => depth_calls _ e ka kn kc w true _ h1 (Nat.lt_succ_self _)
        have HNx : Hid (ItsAt true (fun g => w1.heap.size ≤ g) wo r (some ⟨g, off + (i + 1) * 4, none⟩) (n1 - (i + 1)) ∧ ((r.Pairwise fun a b => a.pl < b.pl) ∧ ∀ i ∈ r, 0 ≤ i.pl ∧ i.pl < s.size ∧ okArgs i.args) ∧ (wo.cell? ⟨g, off + i * 4 + 3, none⟩ = some (.int .i64 it.pl) ∧ ∀ i ∈ r, it.pl < i.pl)) := by
          have h1 := HL.out.1
          rw [List.pairwise_cons] at h1
          exact ⟨hr2, ⟨h1.2, fun i hi => HL.out.2 i (by simp [hi])⟩, x3, h1.1⟩
        have HNw : Hid ((wo.alloc (.cells #[.int .i64 it.kind, .string (bs it.name), .slice ka kc kk, .int .i64 it.pl] 42)).heap[wo.heap.size]? = some (.cells #[.int .i64 it.kind, .string (bs it.name), .slice ka kc kk, .int .i64 it.pl] 42 (0, 0))) := heap_alloc_new wo _
        have HBx : Hid (∀ o' n, Below wo.heap.size wo ((wo.alloc o').drewN n)) := fun o' n => below_drewN (hbx o') n
        cases i with
        | zero =>
          have e3 : decide ((0 : Int) < ((0 : Nat) : Int)) = false := rfl
          simp only [Nat.zero_mul, Nat.add_zero] at x0 x1 x2 x3
          have hd2 : decide ((0 : Int) < (n1 : Int)) = true := by simp; omega
          clear HI HL HPv hdk hmem hk2 hr2 hok hkc hF5 hbx
          go_wp2_with fail
          go_quiet (fail)
          have HW9 : Hid (Below wo.heap.size wo ((wo.alloc (.cells #[.int .i64 it.kind, .string (bs it.name), .slice ka kc kk, .int .i64 it.pl] 42)).drewN nq) ∧ ((wo.alloc (.cells #[.int .i64 it.kind, .string (bs it.name), .slice ka kc kk, .int .i64 it.pl] 42)).drewN nq).heap[wo.heap.size]? = some (.cells #[.int .i64 it.kind, .string (bs it.name), .slice ka kc kk, .int .i64 it.pl] 42 (0, 0))) := ⟨HBx.out _ nq, by rw [drewN_heap]; exact HNw.out⟩
          generalize (wo.alloc (.cells #[.int .i64 it.kind, .string (bs it.name), .slice ka kc kk, .int .i64 it.pl] 42)).drewN nq = w9 at *
          have HF9 : Hid (FoAt true (fun g => w1.heap.size ≤ g) w9 it.args (some ⟨g5, off5 + 0 * 5, none⟩) (kc - 0)) := HI5.out.1.below HW9.out.1
          clear t4' t4 HBx HNw
          go_wp2_with fail
          go_loopg [10] kc (fun k jv ws => ∃ (G : Fo) (j : Nat), jv = .int .i64 (j : Int) ∧ j + k = kc ∧ Hid (FoAt true (fun g => w1.heap.size ≤ g) ws G (some ⟨g5, off5 + j * 5, none⟩) (kc - j) ∧ okArgs G) ∧ Hid (Below wo.heap.size wo ws ∧ ws.heap[wo.heap.size]? = some (.cells #[.int .i64 it.kind, .string (bs it.name), .slice ka kc kk, .int .i64 it.pl] 42 (0, 0))))
          case atStart => exact ⟨it.args, 0, rfl, by omega, ⟨HF9.out, HI5.out.2⟩, HW9.out⟩
          case round =>
            clear HF9 HW9 HI5
            obtain ⟨G, j, rfl, hjk, HG, HB⟩ := hrel
            have a2 := blk (i := 2) HB.out.2 rfl
            by_cases hj : j < kc
            · have hdj : decide ((j : Int) < (kc : Int)) = true := by simp; omega
              obtain ⟨b0, o0, h2, k2, r2, ka2, kc2, kk2, rfl, -, hok2, hkc2, ⟨y0, y1, y2, y3, y4⟩, hk3, hr3⟩ := foAt_head HG.out.1 hj
              have hkb2 := hkb (by omega)
              subst hkb2
              have hko := HG.out.2
              simp only [okArgs] at hko
              have f1 : decide (wrap64 (depW k2 + 1) < 1) = false := by simp; omega
              have f2 : decide ((32 : Int) < wrap64 (depW k2 + 1)) = false := by simp; omega
              have HE2 : Hid (ExAt true (fun g => w1.heap.size ≤ g) wr (h2, k2) ka2 kc2) := ⟨hok2, hkc2, hk3⟩
              have HR2 : Hid (FoAt true (fun g => w1.heap.size ≤ g) wr r2 (some ⟨g5, off5 + (j + 1) * 5, none⟩) (kc - (j + 1)) ∧ okArgs r2) := ⟨hr3, hko.2⟩
              clear HG hk3 hr3 hok2 hkc2 hko
              go_wp2_with fail
              refine (HD.out (h2, k2) ka2 kc2 kk2 _ HE2.out).mono ?_
              rintro e' w3 ⟨rfl, hb3⟩
              have HR3 : Hid (FoAt true (fun g => w1.heap.size ≤ g) w3 r2 (some ⟨g5, off5 + (j + 1) * 5, none⟩) (kc - (j + 1)) ∧ okArgs r2) := ⟨HR2.out.1.below hb3, HR2.out.2⟩
              have HB3 : Hid (Below wo.heap.size wo w3 ∧ w3.heap[wo.heap.size]? = some (.cells #[.int .i64 it.kind, .string (bs it.name), .slice (some ⟨g5, off5, none⟩) kc kk, .int .i64 it.pl] 42 (0, 0))) := ⟨HB.out.1.trans (hb3.mono HB.out.1.size), by rw [hb3.block _ (lt_block HB.out.2)]; exact HB.out.2⟩
              clear hb3 HE2 HR2 HB
              simp only
              generalize wrap64 (depW k2 + 1) = dk at *
              go_wp2_with fail
              go_roundg (gk - 1)
              case measure => omega
              case rel => exact ⟨r2, j + 1, by go_num, by omega, HR3, HB3⟩
            · have hdj : decide ((j : Int) < (kc : Int)) = false := by simp; omega
              have HZ : Hid (ItsAt true (fun g => w1.heap.size ≤ g) wr r (some ⟨g, off + (0 + 1) * 4, none⟩) (n1 - (0 + 1)) ∧ ((r.Pairwise fun a b => a.pl < b.pl) ∧ ∀ i ∈ r, 0 ≤ i.pl ∧ i.pl < s.size ∧ okArgs i.args) ∧ (∃ p : Int, wr.cell? ⟨g, off + (0 + 1 - 1) * 4 + 3, none⟩ = some (.int .i64 p) ∧ ∀ i ∈ r, p < i.pl)) := by
                obtain ⟨z1, z2, z3, z4⟩ := HNx.out
                exact ⟨z1.below HB.out.1, z2, it.pl, by rw [Nat.add_sub_cancel]; exact keepc HB.out.1 z3, z4⟩
              have HW2 : Hid (Below w.heap.size w wr ∧ wr.heap[w2.heap.size]? = some (.cells #[.slice (some ⟨g, off, none⟩) n1 c1] 24 (0, 0)) ∧ wr.heap[w2.heap.size + 1]? = some (.cells #[.int .i64 0, .int .i64 0] 27 (0, 0))) := by
                obtain ⟨z1, z2, z3⟩ := HW.out
                exact ⟨z1.trans (HB.out.1.mono z1.size), by rw [HB.out.1.block _ (lt_block z2)]; exact z2, by rw [HB.out.1.block _ (lt_block z3)]; exact z3⟩
              clear HG HB HNx HW
              go_wp2_with fail
              go_roundg (gq - 1)
              case measure => omega
              case rel => exact ⟨r, 0 + 1, by go_num, by omega, HZ.out.1, HZ.out.2.1, (fun _ => HZ.out.2.2), HW2.out⟩
        | succ i =>
          have e3 : decide ((0 : Int) < ((i + 1 : Nat) : Int)) = true := by simp
          obtain ⟨p, hp1, hp2⟩ := HPv.out (by omega)
          have e4 : decide (it.pl ≤ p) = false := by have := hp2 it (by simp); simp; omega
          have hp1' := fun o' => keepc (hbx o') hp1
          simp only [Nat.add_sub_cancel] at hp1'
          clear HI HL HPv hdk hmem hk2 hr2 hok hkc hF5 hbx hp1 hp2
          go_wp2_with fail
          go_quiet (fail)
          have HW9 : Hid (Below wo.heap.size wo ((wo.alloc (.cells #[.int .i64 it.kind, .string (bs it.name), .slice ka kc kk, .int .i64 it.pl] 42)).drewN nq) ∧ ((wo.alloc (.cells #[.int .i64 it.kind, .string (bs it.name), .slice ka kc kk, .int .i64 it.pl] 42)).drewN nq).heap[wo.heap.size]? = some (.cells #[.int .i64 it.kind, .string (bs it.name), .slice ka kc kk, .int .i64 it.pl] 42 (0, 0))) := ⟨HBx.out _ nq, by rw [drewN_heap]; exact HNw.out⟩
          generalize (wo.alloc (.cells #[.int .i64 it.kind, .string (bs it.name), .slice ka kc kk, .int .i64 it.pl] 42)).drewN nq = w9 at *
          have HF9 : Hid (FoAt true (fun g => w1.heap.size ≤ g) w9 it.args (some ⟨g5, off5 + 0 * 5, none⟩) (kc - 0)) := HI5.out.1.below HW9.out.1
          clear t4' t4 HBx HNw
          go_wp2_with fail
          go_loopg [10] kc (fun k jv ws => ∃ (G : Fo) (j : Nat), jv = .int .i64 (j : Int) ∧ j + k = kc ∧ Hid (FoAt true (fun g => w1.heap.size ≤ g) ws G (some ⟨g5, off5 + j * 5, none⟩) (kc - j) ∧ okArgs G) ∧ Hid (Below wo.heap.size wo ws ∧ ws.heap[wo.heap.size]? = some (.cells #[.int .i64 it.kind, .string (bs it.name), .slice ka kc kk, .int .i64 it.pl] 42 (0, 0))))
          case atStart => exact ⟨it.args, 0, rfl, by omega, ⟨HF9.out, HI5.out.2⟩, HW9.out⟩
          case round =>
            clear HF9 HW9 HI5
            obtain ⟨G, j, rfl, hjk, HG, HB⟩ := hrel
            have a2 := blk (i := 2) HB.out.2 rfl
            by_cases hj : j < kc
            · have hdj : decide ((j : Int) < (kc : Int)) = true := by simp; omega
              obtain ⟨b0, o0, h2, k2, r2, ka2, kc2, kk2, rfl, -, hok2, hkc2, ⟨y0, y1, y2, y3, y4⟩, hk3, hr3⟩ := foAt_head HG.out.1 hj
              have hkb2 := hkb (by omega)
              subst hkb2
              have hko := HG.out.2
              simp only [okArgs] at hko
              have f1 : decide (wrap64 (depW k2 + 1) < 1) = false := by simp; omega
              have f2 : decide ((32 : Int) < wrap64 (depW k2 + 1)) = false := by simp; omega
              have HE2 : Hid (ExAt true (fun g => w1.heap.size ≤ g) wr (h2, k2) ka2 kc2) := ⟨hok2, hkc2, hk3⟩
              have HR2 : Hid (FoAt true (fun g => w1.heap.size ≤ g) wr r2 (some ⟨g5, off5 + (j + 1) * 5, none⟩) (kc - (j + 1)) ∧ okArgs r2) := ⟨hr3, hko.2⟩
              clear HG hk3 hr3 hok2 hkc2 hko
              go_wp2_with fail
              refine (HD.out (h2, k2) ka2 kc2 kk2 _ HE2.out).mono ?_
              rintro e' w3 ⟨rfl, hb3⟩
              have HR3 : Hid (FoAt true (fun g => w1.heap.size ≤ g) w3 r2 (some ⟨g5, off5 + (j + 1) * 5, none⟩) (kc - (j + 1)) ∧ okArgs r2) := ⟨HR2.out.1.below hb3, HR2.out.2⟩
              have HB3 : Hid (Below wo.heap.size wo w3 ∧ w3.heap[wo.heap.size]? = some (.cells #[.int .i64 it.kind, .string (bs it.name), .slice (some ⟨g5, off5, none⟩) kc kk, .int .i64 it.pl] 42 (0, 0))) := ⟨HB.out.1.trans (hb3.mono HB.out.1.size), by rw [hb3.block _ (lt_block HB.out.2)]; exact HB.out.2⟩
              clear hb3 HE2 HR2 HB
              simp only
              generalize wrap64 (depW k2 + 1) = dk at *
              go_wp2_with fail
              go_roundg (gk - 1)
              case measure => omega
              case rel => exact ⟨r2, j + 1, by go_num, by omega, HR3, HB3⟩
            · have hdj : decide ((j : Int) < (kc : Int)) = false := by simp; omega
              have HZ : Hid (ItsAt true (fun g => w1.heap.size ≤ g) wr r (some ⟨g, off + ((i + 1) + 1) * 4, none⟩) (n1 - ((i + 1) + 1)) ∧ ((r.Pairwise fun a b => a.pl < b.pl) ∧ ∀ i ∈ r, 0 ≤ i.pl ∧ i.pl < s.size ∧ okArgs i.args) ∧ (∃ p : Int, wr.cell? ⟨g, off + ((i + 1) + 1 - 1) * 4 + 3, none⟩ = some (.int .i64 p) ∧ ∀ i ∈ r, p < i.pl)) := by
                obtain ⟨z1, z2, z3, z4⟩ := HNx.out
                exact ⟨z1.below HB.out.1, z2, it.pl, by rw [Nat.add_sub_cancel]; exact keepc HB.out.1 z3, z4⟩
              have HW2 : Hid (Below w.heap.size w wr ∧ wr.heap[w2.heap.size]? = some (.cells #[.slice (some ⟨g, off, none⟩) n1 c1] 24 (0, 0)) ∧ wr.heap[w2.heap.size + 1]? = some (.cells #[.int .i64 0, .int .i64 0] 27 (0, 0))) := by
                obtain ⟨z1, z2, z3⟩ := HW.out
                exact ⟨z1.trans (HB.out.1.mono z1.size), by rw [HB.out.1.block _ (lt_block z2)]; exact z2, by rw [HB.out.1.block _ (lt_block z3)]; exact z3⟩
              clear HG HB HNx HW
              go_wp2_with fail
              go_roundg (gq - 1)
              case measure => omega
              case rel => exact ⟨r, (i + 1) + 1, by go_num, by omega, HZ.out.1, HZ.out.2.1, (fun _ => HZ.out.2.2), HW2.out⟩
      · have hd1 : decide ((i : Int) < (n1 : Int)) = false := by simp; omega
        have t50 := blk (i := 0) HW.out.2.2 rfl
        have t51 := blk (i := 1) HW.out.2.2 rfl
        have hle : decide ((n1 : Int) ≤ 100) = true := by simp; omega
        have HB : Hid (Below w.heap.size w wr) := HW.out.1
        clear HI HL HPv HW hdk
        go_wp2
        go_ret
        exact ⟨rfl, HB.out⟩
  · obtain ⟨hL, hy0, hy1⟩ := hpr.1 hx
    subst hL
    have q0 : (x != 0) = true := by simpa using hx
    have p0 : decide ((0 : Int) ≤ y) = true := by simpa using hy0
    have p1 : decide (y ≤ (s.size : Int)) = true := by simpa using hy1
    have qz : ((0 : Int) == 0) = true := rfl
    clear hpr hx
    go_enter Try.func5, Try.ntmps5
    go_wp2_with fail
    refine (HA.out _).mono ?_
    rintro e w1 ⟨rfl, hb1⟩
    have HB1 : Hid (Below w.heap.size w w1) := hb1
    clear hb1
    go_wp2_with fail
    refine (HP1.out _).mono ?_
    rintro e w2 ⟨a1, n1, c1, rfl, hn1, hI1, hb2⟩
    simp only at hI1
    have hl1 : n1 = 0 := itsAt_len hI1
    subst hl1
    have HB2 : Hid (∀ o o', Below w.heap.size w ((w2.alloc o).alloc o')) := fun o o' => by
      have h1 := HB1.out.trans (hb2.mono HB1.out.size)
      exact (h1.alloc h1.size o).alloc (by have := h1.size; simp; omega) o'
    clear hI1 hb2 HB1
    simp only
    go_wp2
    go_ret
    exact ⟨rfl, HB2.out _ _⟩


namespace syntaxRight
open Go.ChangeShapes Go.WideShapes Go.ChangeAt Go.RowKit
open Go.ChangeMaps (open_string shut_string)
theorem own : ownKnob Try.prog.godebug = none := by kernel_rfl

set_option maxRecDepth 100000 in
theorem lifted (os : Os) (started : os.Started) (H : Type) (enc : TypeId × Value → H) :
    ReturnsInHanded {} Try.checked os 5 .any (Rows.syntaxRightSpec.pre6 enc Try.prog Try.f5 Rows.syntaxRightRow.domain false) (Rows.syntaxRightSpec.post enc Try.prog Try.f5 false true false false) := by
  refine returnsInHanded_of_change (C := Try.checked) own started (by kernel_rfl) Try.func5
    (ChangeSpec.witness6 (enc := enc) (C := Try.checked) false ⟨#[], #[.string ByteArray.empty], []⟩ 8 (by kernel_rfl) (by kernel_rfl) (by kernel_rfl) (by kernel_rfl)) ?_
  intro W base args ds gs before hval0 hW _ _
  have hval : ∀ (j : Nat) t v, Try.f5.params[j]? = some t → args[j]? = some v → Value.okWide Try.prog W .any base t v := hval0
  have hW' := hW
  obtain ⟨p, q, hA0, hV, rfl, hfz, hnd⟩ := hW
  have hA : DataW.TrodAll enc Try.prog W 0 (fun _ => true) true Try.f5.params.toList args.toList ds p := hA0
  rw [Try.params5] at hA hval
  obtain ⟨v0, vs0, d0, ds0, p0, q0, hargs, rfl, rfl, h0, r0⟩ := trodAll_cons hA
  obtain ⟨rfl, rfl, rfl⟩ := trodAll_nil r0
  obtain rfl : args = #[v0] := by cases args; simp_all
  obtain ⟨rfl, rfl⟩ := trodVars_none hV
  obtain ⟨a0, rfl, rfl, rfl, w0⟩ := open_string Try.underlying9 (hval 0 9 v0 rfl rfl) h0
  clear hA0 hval0
  refine (right_walk a0 W w0).mono fun e W' ⟨he, bel⟩ => ?_
  subst he
  exact ⟨_, rfl, _, _, _, [], _, [], hW', trodAll_mk1 (shut_bool Try.underlying4 _), (trodAll_cons_mk (shut_string Try.underlying9 w0) trodAll_mk0), rfl, bel.frame _, fun h => by cases h⟩
end syntaxRight

theorem syntaxRight_holds : Rows.SyntaxRightSaid :=
  OpenClaim.holds_of_wide 5 Try.f5 rfl rfl rfl rfl rfl rfl rfl ⟨rfl, rfl, rfl, rfl, rfl⟩ rfl rfl rfl rfl rfl (by kernel_rfl) Try.func5 (by kernel_rfl)
    (of_decide_eq_true (by kernel_rfl)) (by unfold Func.isWrapper; first | (rw [if_pos (by decide +kernel)]; kernel_rfl) | (rw [if_neg (by decide +kernel)]; exact ⟨rfl, rfl⟩))
    (fun os started H enc _ => syntaxRight.lifted os started H enc)
end Go.Proofs.Ytnnmhmlebffacaa
