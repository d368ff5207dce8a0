/-
  SyntaxFirst is proved for every input: what stands behind the first wrong token does not matter. No condition.
-/
import Derived.Test.YtnnmhmlebffacaaRows
import Derived.WalkKit
import Derived.ProofKit
import Derived.OpenShut
import Derived.ShutString
import Derived.ChangeOld
import Derived.BigQuiet
import Derived.Below
import Derived.Test.YtnnmhmlebffacaaCat
import Derived.Test.YtnnmhmlebffacaaAwk
import Derived.Test.YtnnmhmlebffacaaJwAll
namespace Go.Proofs.Ytnnmhmlebffacaa
open Go.RowKit Go.Deep

theorem tks_cells {w : World} {ao : Option Addr} {n : Nat} {l : List Tk} (h : TksAt w ao n l) (h0 : 0 < n) : ∃ b off, ao = some ⟨b, off, none⟩ := by
  obtain ⟨b, off, e, _⟩ := h.cells h0
  exact ⟨b, off, e⟩
theorem tks_at {w : World} {b off n : Nat} {l : List Tk} (h : TksAt w (some ⟨b, off, none⟩) n l) {i : Nat} {t : Tk} (hi : l[i]? = some t) :
    w.cell? ⟨b, off + i * 4, none⟩ = some (.int .i64 t.kind) ∧ w.cell? ⟨b, off + i * 4 + 1, none⟩ = some (.int .i64 t.num) ∧ w.cell? ⟨b, off + i * 4 + 2, none⟩ = some (.string (bs t.text)) ∧ w.cell? ⟨b, off + i * 4 + 3, none⟩ = some (.int .i64 (t.pl : Int)) := by
  have hlt : i < n := by rw [← h.length]; exact (List.getElem?_eq_some_iff.1 hi).1
  obtain ⟨b', off', e, hc⟩ := h.cells (by omega)
  cases e
  exact hc i t hi
theorem cat_big (a b : ByteArray) (h : a.size + b.size ≤ 140737488355327) : ∃ c : ByteArray, c.data.toList = a.data.toList ++ b.data.toList ∧ c.size = a.size + b.size ∧ ∀ W, (Op.stringOp .add a b).run Try.prog W = .ok (.string c) W :=
  ⟨a ++ b, by rw [ByteArray.data_append, Array.toList_append], ByteArray.size_append, fun W => run_string_add_sum W _ _ (by omega)⟩
theorem slice_to (s : ByteArray) (q : Nat) (h2 : q ≤ s.size) (w : World) : (Instr.slice 9 (.string s) none (some (.int .i64 (q : Int))) none).run Try.prog w = .ok (.string (s.extract 0 q)) w := by
  go_simp
theorem one_place : ∀ {l p x : List Tk} {c t : Tk} {k : Nat}, (l.Pairwise fun a b => a.pl < b.pl) → l = p ++ c :: x → l[k]? = some t → t.pl = c.pl → k = p.length := by
  intro l p x c t k hp hl ht hc
  have hk := (List.getElem?_eq_some_iff.1 ht).1
  have hke := (List.getElem?_eq_some_iff.1 ht).2
  have hlt : p.length < l.length := by rw [hl]; simp
  have hpe : l[p.length] = c := by subst hl; simp
  rcases Nat.lt_trichotomy k p.length with h | h | h
  · have := List.pairwise_iff_getElem.1 hp k p.length hk hlt h
    rw [hke, hpe] at this; omega
  · exact h
  · have := List.pairwise_iff_getElem.1 hp p.length k hlt hk h
    rw [hke, hpe] at this; omega
theorem guard27 : Try.prog.eqGuardType Try.prog.depth 27 = false := by kernel_rfl
set_option maxRecDepth 20000 in
set_option maxHeartbeats 8000000 in
theorem first_walk (s t : ByteArray) (w : World) (hs0 : s.size ≤ 140737488351232) (ht0 : t.size ≤ 140737488351232) :
    Calls Try.prog 8 #[.string s, .string t] w fun e w' => e = .returned (.bool true) ∧ Below w.heap.size w w' := by
  have HA : Hid (∀ w, Calls Try.prog 13 #[] w fun e w' => e = .returned (.bool true) ∧ Below w.heap.size w w') := fun w => awake_calls w
  have HS : Hid (∀ w, Calls Try.prog 21 #[.string s] w fun e w' => ScanPost (scanB s.data.toList) w e w') := fun w => scan_calls s w
  have HP1 : Hid (∀ w, Calls Try.prog 9 #[.string s] w fun e w' => TreePost (parseW s.data.toList) w e w') := fun w => parse_calls s w
  have hfew := scan_few s.data.toList
  have hok := scan_ok s.data.toList
  by_cases hout : (scanB s.data.toList).2.2 ≠ 0 ∨ (parseW s.data.toList).2.1 ≠ 70
  · have hq : ((scanB s.data.toList).2.2 != 0) = true ∨ ((scanB s.data.toList).2.2 != 0) = false ∧ ((parseW s.data.toList).2.1 != 70) = true := by
      by_cases h0 : (scanB s.data.toList).2.2 = 0
      · refine .inr ⟨by rw [h0]; rfl, ?_⟩
        rcases hout with h | h
        · exact absurd h0 h
        · simpa using h
      · exact .inl (by rw [bne_iff_ne]; exact h0)
    clear hout hok
    generalize scanB s.data.toList = A at *
    obtain ⟨l, p0, zz⟩ := A
    generalize parseW s.data.toList = R1 at *
    obtain ⟨L1, x1, y1⟩ := R1
    simp only at hq hfew
    rcases hq with h1 | ⟨h0, h1⟩ <;> (
      go_enter Try.func8, Try.ntmps8
      go_wp2_with fail
      refine (HA.out _).mono ?_
      rintro e w1 ⟨rfl, hb1⟩
      have HB1 : Hid (Below w.heap.size w w1) := hb1
      clear hb1
      go_wp2_with fail
      refine (HS.out _).mono ?_
      rintro e w2 ⟨v, rfl, ho2, hb2⟩
      simp only at ho2
      obtain ⟨lo, cap, rfl⟩ := owned_shape ho2
      have HB2 : Hid (Below w.heap.size w w2) := HB1.out.trans (hb2.mono HB1.out.size)
      clear ho2 hb2
      go_wp2_with fail
      refine (HP1.out _).mono ?_
      rintro e w3 ⟨a1, n1, c1, rfl, hn1, hI1, hb3⟩
      have HB3 : Hid (∀ o o', Below w.heap.size w ((w3.alloc o).alloc o')) := fun o o' => by
        have h1 := HB2.out.trans (hb3.mono HB2.out.size)
        exact h1.trans ((((Below.refl _ _).alloc (Nat.le_refl _) o).alloc (by simp) o').mono h1.size)
      clear hI1 hb3
      simp only
      go_wp2
      go_ret
      exact ⟨rfl, HB3.out _ _⟩)
  have hze : (scanB s.data.toList).2.2 = 0 := by
    rcases Classical.em ((scanB s.data.toList).2.2 = 0) with h | h
    · exact h
    · exact absurd (.inl h) hout
  have h70 : (parseW s.data.toList).2.1 = 70 := by
    rcases Classical.em ((parseW s.data.toList).2.1 = 70) with h | h
    · exact h
    · exact absurd (.inr h) hout
  obtain ⟨hs4, hp0, T, hT, hgood, hpw⟩ := scan_good hze
  rw [size_toList] at hs4
  obtain ⟨p, c, x, hl, hpz, hx0, hx1⟩ := parse_first hze h70
  have hc0 : Hid (∀ t, (scanB s.data.toList).1[p.length]? = some t → t.pl = c.pl) := fun t ht => by
    rw [hl] at ht; simp at ht; rw [← ht]
  have h0 : Hid (∀ k t, (scanB s.data.toList).1[k]? = some t → t.pl = c.pl → k = p.length) := fun k t h1 h2 => one_place hpw hl h1 h2
  have hlen : (scanB s.data.toList).1.length = p.length + 1 + x.length := by rw [hl]; simp; omega
  -- what stands behind the wrong token
  have hcase : ∃ nx : Nat, (∀ t, (scanB s.data.toList).1[p.length + 1]? = some t → t.pl = nx) ∧ (x.length = 0 ∧ (c.pl : Int) = s.size ∨ 0 < x.length ∧ nx ≤ s.size ∧ ∀ u : ByteArray, u.data.toList = (s.data.toList.take nx) ++ 10 :: t.data.toList → (scanB u.data.toList).2.2 = 0 → (parseW u.data.toList).2 = (70, (c.pl : Int))) := by
    cases x with
    | nil =>
      refine ⟨0, fun t ht => ?_, .inl ⟨rfl, ?_⟩⟩
      · have := (List.getElem?_eq_some_iff.1 ht).1
        rw [hlen] at this; simp at this
      · rw [hx0 rfl]; show ((s.data.toList.length : Nat) : Int) = _; rw [size_toList]
    | cons b B =>
      obtain ⟨y1, y2⟩ := hx1 b B rfl
      rw [size_toList] at y1
      refine ⟨b.pl, fun t ht => ?_, .inr ⟨by simp, y1, fun u hu hz => ?_⟩⟩
      · rw [hl, List.getElem?_append_right (by omega), show p.length + 1 - p.length = 1 by omega] at ht
        simp at ht; rw [← ht]
      · rw [hu] at hz ⊢; exact y2 _ hz
  obtain ⟨nx, hnx, hdj⟩ := hcase
  have HX : Hid (∀ t, (scanB s.data.toList).1[p.length + 1]? = some t → t.pl = nx) := hnx
  have HD : Hid (x.length = 0 ∧ (c.pl : Int) = s.size ∨ 0 < x.length ∧ nx ≤ s.size ∧ ∀ u : ByteArray, u.data.toList = (s.data.toList.take nx) ++ 10 :: t.data.toList → (scanB u.data.toList).2.2 = 0 → (parseW u.data.toList).2 = (70, (c.pl : Int))) := hdj
  clear hout hgood hpw hT hl hx0 hx1 hnx hdj
  generalize scanB s.data.toList = A at *
  obtain ⟨l, p0, zz⟩ := A
  generalize parseW s.data.toList = R1 at *
  obtain ⟨L1, x1, y1⟩ := R1
  simp only at hze h70 hfew hok hlen hp0 h0 hc0 HX hpz
  subst hze h70 hp0
  have hy : y1 = (c.pl : Int) := congrArg Prod.snd hpz
  subst hy
  have HK : Hid (∀ r ∈ l, TkOk r) := hok
  clear hok hpz
  generalize hpl : p.length = pn at *
  generalize c.pl = cp at *
  generalize x.length = xn at *
  clear hpl
  have q1 : ((0 : Int) != 0) = false := rfl
  have q2 : ((70 : Int) != 70) = false := rfl
  go_enter Try.func8, Try.ntmps8
  go_wp2_with fail
  refine (HA.out _).mono ?_
  rintro e w1 ⟨rfl, hb1⟩
  have HB1 : Hid (Below w.heap.size w w1) := hb1
  clear hb1 HA
  go_wp2_with fail
  refine (HS.out _).mono ?_
  rintro e w2 ⟨v, rfl, ho2, hb2⟩
  simp only at ho2
  obtain ⟨lo, cap, rfl⟩ := owned_shape ho2
  have HB2 : Hid (Below w.heap.size w w2) := HB1.out.trans (hb2.mono HB1.out.size)
  have HT2 : Hid (TksAt w2 lo l.length l) := owned_tks ho2 HK.out
  clear ho2 hb2 HB1 HS
  generalize hn : l.length = n at *
  have HN : Hid (l.length = n) := hn
  have hn1 : 1 ≤ n := by omega
  have HLn : Hid (n = pn + 1 + xn) := hlen
  clear hn hlen
  go_wp2_with fail
  refine (HP1.out _).mono ?_
  rintro e w3 ⟨a1, n1, c1, rfl, hn1, hI1, hb3⟩
  generalize hW4 : (w3.alloc (.cells #[.slice a1 n1 c1] 24)).alloc (.cells #[.int .i64 70, .int .i64 (cp : Int)] 27) = W4
  have HW4 : Hid ((w3.alloc (.cells #[.slice a1 n1 c1] 24)).alloc (.cells #[.int .i64 70, .int .i64 (cp : Int)] 27) = W4) := hW4
  have h34 : Below w3.heap.size w3 W4 := by rw [← hW4]; exact ((Below.refl _ _).alloc (Nat.le_refl _) _).alloc (by simp) _
  have j5 : W4.heap[w3.heap.size + 1]? = some (.cells #[.int .i64 70, .int .i64 (cp : Int)] 27 (0, 0)) := by
    rw [← hW4]
    have := heap_alloc_new (w3.alloc (.cells #[.slice a1 n1 c1] 24)) (.cells #[.int .i64 70, .int .i64 (cp : Int)] 27)
    rwa [show (w3.alloc (.cells #[.slice a1 n1 c1] 24)).heap.size = w3.heap.size + 1 by simp] at this
  have HS4 : Hid (Below w.heap.size w W4 ∧ W4.heap[w3.heap.size + 1]? = some (.cells #[.int .i64 70, .int .i64 (cp : Int)] 27 (0, 0)) ∧ TksAt W4 lo n l) := by
    have h1 := HB2.out.trans (hb3.mono HB2.out.size)
    exact ⟨h1.trans (h34.mono h1.size), j5, (HT2.out.below hb3).below h34⟩
  have t0 := blk (i := 0) j5 rfl
  clear hI1 hb3 h34 j5 hW4 HB2 HT2 HP1
  simp only
  go_wp2_with fail
  rw [HW4.out]
  go_wp2_with fail
  go_loopw [11, 12] (fun en i wr => ∃ (k : Nat) (ev : Int), k + 1 ≤ n ∧ i = .int .i64 (k : Int) ∧ en = .int .i64 ev ∧ ev = (if pn < k then (nx : Int) else -1) ∧ Hid (Below w.heap.size w wr ∧ wr.heap[w3.heap.size + 1]? = some (.cells #[.int .i64 70, .int .i64 (cp : Int)] 27 (0, 0)) ∧ TksAt wr lo n l)) (fun _ i _ => n - (intOf i).toNat)
  case atStart => exact ⟨0, -1, by omega, rfl, rfl, by rw [if_neg (by omega)], HS4.out⟩
  case round =>
    obtain ⟨k, ev, hk, rfl, rfl, hev, HW⟩ := hrel
    have t1 := blk (i := 1) HW.out.2.1 rfl
    by_cases hlt : k + 1 < n
    · obtain ⟨ta, hta⟩ : ∃ t, l[k]? = some t := ⟨_, List.getElem?_eq_getElem (by rw [HN.out]; omega)⟩
      obtain ⟨tb, htb⟩ : ∃ t, l[k + 1]? = some t := ⟨_, List.getElem?_eq_getElem (by rw [HN.out]; exact hlt)⟩
      obtain ⟨gl, ol, rfl⟩ := tks_cells HW.out.2.2 (by omega)
      obtain ⟨_, _, _, x3⟩ := tks_at HW.out.2.2 hta
      obtain ⟨_, _, _, y3⟩ := tks_at HW.out.2.2 htb
      have hdk : decide ((k : Int) + 1 < (n : Int)) = true := by simp; omega
      by_cases hkp : k = pn
      · have hnx := HX.out tb (by rw [← hkp]; exact htb)
        have hcq : ((ta.pl : Int) == (cp : Int)) = true := by
          have := hc0.out ta (by rw [← hkp]; exact hta)
          rw [this]; simp
        have hnw : Hid ((tb.pl : Int) = (if pn < k + 1 then (nx : Int) else -1)) := by
          show _ = _
          rw [if_pos (by omega), hnx]
        have HZ : Hid (∀ m, Below w.heap.size w (wr.drewN m) ∧ (wr.drewN m).heap[w3.heap.size + 1]? = some (.cells #[.int .i64 70, .int .i64 (cp : Int)] 27 (0, 0)) ∧ TksAt (wr.drewN m) (some ⟨gl, ol, none⟩) n l) := fun m => by
          obtain ⟨z1, z2, z3⟩ := HW.out
          have hb := below_drewN (Below.refl wr.heap.size wr) m
          exact ⟨z1.trans (hb.mono z1.size), by rw [drewN_heap]; exact z2, z3.below hb⟩
        have y3' := fun m => keepc (below_drewN (Below.refl wr.heap.size wr) m) y3
        clear HW hta htb hnx hkp hev
        generalize ta.pl = pa at *
        generalize tb.pl = pb at *
        go_wp2_with fail
        go_quiet (fail)
        go_wp2_with fail
        go_roundw
        case rel => exact ⟨k + 1, pb, by omega, by go_num, rfl, hnw.out, HZ.out _⟩
        case measure => simp [intOf]; omega
      · have hcq : ((ta.pl : Int) == (cp : Int)) = false := by
          have : ta.pl ≠ cp := fun h => hkp (h0.out k ta hta h)
          simp; omega
        have hnw : Hid (ev = (if pn < k + 1 then (nx : Int) else -1)) := by
          show _ = _
          rw [hev]
          by_cases h : pn < k
          · rw [if_pos h, if_pos (by omega)]
          · rw [if_neg h, if_neg (by omega)]
        have HZ : Hid (∀ m, Below w.heap.size w (wr.drewN m) ∧ (wr.drewN m).heap[w3.heap.size + 1]? = some (.cells #[.int .i64 70, .int .i64 (cp : Int)] 27 (0, 0)) ∧ TksAt (wr.drewN m) (some ⟨gl, ol, none⟩) n l) := fun m => by
          obtain ⟨z1, z2, z3⟩ := HW.out
          have hb := below_drewN (Below.refl wr.heap.size wr) m
          exact ⟨z1.trans (hb.mono z1.size), by rw [drewN_heap]; exact z2, z3.below hb⟩
        clear HW hta htb y3 hev hkp
        generalize ta.pl = pa at *
        go_wp2_with fail
        go_quiet (fail)
        go_wp2_with fail
        go_roundw
        case rel => exact ⟨k + 1, ev, by omega, by go_num, rfl, hnw.out, HZ.out _⟩
        case measure => simp [intOf]; omega
    · have hdk : decide ((k : Int) + 1 < (n : Int)) = false := by simp; omega
      have hln := HLn.out
      rcases HD.out with ⟨hxn, hcs⟩ | ⟨hxn, hns, HU⟩
      · have hev1 : ev = -1 := by rw [hev, if_neg (by omega)]
        subst hev1
        have d1 : decide ((-1 : Int) < 0) = true := rfl
        have d2 : ((cp : Int) == (s.size : Int)) = true := by rw [hcs]; simp
        have HZ : Hid (Below w.heap.size w wr) := HW.out.1
        clear HW hev HD hln
        go_wp2
        go_ret
        exact ⟨rfl, HZ.out⟩
      · have hev1 : ev = (nx : Int) := by rw [hev, if_pos (by omega)]
        subst hev1
        have d1 : decide ((nx : Int) < 0) = false := by simp
        have d2 : decide ((s.size : Int) < (nx : Int)) = false := by simp; omega
        have hsl := slice_to s nx hns
        have hse : (s.extract 0 nx).data.toList = s.data.toList.take nx := by rw [extract_list]; simp
        have hsz : (s.extract 0 nx).size ≤ 4000 := by rw [← size_toList, hse, List.length_take, size_toList]; omega
        obtain ⟨u1, e1, n1', r1⟩ := cat_big (s.extract 0 nx) ⟨#[10]⟩ (by rw [show (⟨#[10]⟩ : ByteArray).size = 1 from rfl]; omega)
        have n1'' : u1.size ≤ 4001 := by rw [n1', show (⟨#[10]⟩ : ByteArray).size = 1 from rfl]; omega
        obtain ⟨u, e2, n2, r2⟩ := cat_big u1 t (by omega)
        have hu : u.data.toList = s.data.toList.take nx ++ 10 :: t.data.toList := by rw [e2, e1, hse]; simp
        have HS2 : Hid (∀ w, Calls Try.prog 21 #[.string u] w fun e w' => ScanPost (scanB u.data.toList) w e w') := fun w => scan_calls u w
        have HP2 : Hid (∀ w, Calls Try.prog 9 #[.string u] w fun e w' => TreePost (parseW u.data.toList) w e w') := fun w => parse_calls u w
        have hpu := HU u hu
        have HZ : Hid (Below w.heap.size w wr ∧ wr.heap[w3.heap.size + 1]? = some (.cells #[.int .i64 70, .int .i64 (cp : Int)] 27 (0, 0))) := ⟨HW.out.1, HW.out.2.1⟩
        clear HU HD HW hev hln hu e1 e2 n2 n1' hse HX h0 hc0 HK HN
        generalize s.extract 0 nx = s1 at *
        generalize scanB u.data.toList = A2 at *
        obtain ⟨l2, p2, z2⟩ := A2
        generalize parseW u.data.toList = R2 at *
        obtain ⟨L2, x2, y2⟩ := R2
        simp only at hpu
        by_cases hz2 : z2 = 0
        · subst hz2
          have hpe := hpu rfl
          have hx2 : x2 = 70 := congrArg Prod.fst hpe
          have hy2 : y2 = (cp : Int) := congrArg Prod.snd hpe
          subst hx2 hy2
          have hgd := guard27
          clear hpu hpe
          go_wp2_with fail
          refine (HS2.out _).mono ?_
          rintro e w5 ⟨v, rfl, ho5, hb5⟩
          simp only at ho5
          obtain ⟨lo2, cap2, rfl⟩ := owned_shape ho5
          have HZ5 : Hid (Below w.heap.size w w5 ∧ w5.heap[w3.heap.size + 1]? = some (.cells #[.int .i64 70, .int .i64 (cp : Int)] 27 (0, 0))) := ⟨HZ.out.1.trans (hb5.mono HZ.out.1.size), by rw [hb5.block _ (lt_block HZ.out.2)]; exact HZ.out.2⟩
          clear ho5 hb5 HS2 HZ
          go_wp2_with fail
          refine (HP2.out _).mono ?_
          rintro e w6 ⟨a2, n2, c2, rfl, hn2, hI2, hb6⟩
          have h6 : Below w6.heap.size w6 ((w6.alloc (.cells #[.slice a2 n2 c2] 24)).alloc (.cells #[.int .i64 70, .int .i64 (cp : Int)] 27)) := ((Below.refl _ _).alloc (Nat.le_refl _) _).alloc (by simp) _
          have k6 : w6.heap[w3.heap.size + 1]? = some (.cells #[.int .i64 70, .int .i64 (cp : Int)] 27 (0, 0)) := by rw [hb6.block _ (lt_block HZ5.out.2)]; exact HZ5.out.2
          have hbw : Below w.heap.size w w6 := HZ5.out.1.trans (hb6.mono HZ5.out.1.size)
          have HB6 : Hid (Below w.heap.size w ((w6.alloc (.cells #[.slice a2 n2 c2] 24)).alloc (.cells #[.int .i64 70, .int .i64 (cp : Int)] 27))) := hbw.trans (h6.mono hbw.size)
          have f0 := keepc h6 (blk (i := 0) k6 rfl)
          have f1 := keepc h6 (blk (i := 1) k6 rfl)
          clear hI2 hb6 HZ5 h6 k6 hbw
          simp only
          go_wp2
          go_ret
          exact ⟨rfl, HB6.out⟩
        · have dz : (z2 != 0) = true := by simpa using hz2
          clear hpu
          go_wp2_with fail
          refine (HS2.out _).mono ?_
          rintro e w5 ⟨v, rfl, ho5, hb5⟩
          simp only at ho5
          obtain ⟨lo2, cap2, rfl⟩ := owned_shape ho5
          have HZ5 : Hid (Below w.heap.size w w5) := HZ.out.1.trans (hb5.mono HZ.out.1.size)
          clear ho5 hb5 HS2 HZ
          go_wp2
          go_ret
          exact ⟨rfl, HZ5.out⟩

theorem str_size {H : Type} {ts : List TypeId} {ds : List (DataW H)} {a : ByteArray} {i : Nat} (h : (DataW.weightsEach Try.prog ts ds).all (· ≤ reachBytes) = true) (ht : ts[i]? = some 9) (hd : ds[i]? = some (.lit (.string a.data.toList))) : a.size ≤ 140737488351232 := by
  have hm : a.data.toList.length ∈ DataW.weights Try.prog 9 (DataW.lit (H := H) (.string a.data.toList)) := by
    simp [DataW.weights]
  have hw : a.data.toList.length ≤ reachBytes := of_decide_eq_true (List.all_eq_true.1 h _ (DataW.weights_mem_each ht hd _ hm))
  unfold reachBytes at hw
  rw [size_toList] at hw
  omega

namespace syntaxFirst
open Go.ChangeShapes Go.WideShapes Go.ChangeAt Go.RowKit
open Go.ChangeMaps (open_string shut_string)
theorem own : ownKnob Try.prog.godebug = none := by kernel_rfl

set_option maxRecDepth 100000 in
theorem lifted (os : Os) (started : os.Started) (H : Type) (enc : TypeId × Value → H) :
    ReturnsInHanded {} Try.checked os 8 .any (Rows.syntaxFirstSpec.pre6 enc Try.prog Try.f8 Rows.syntaxFirstRow.domain false) (Rows.syntaxFirstSpec.post enc Try.prog Try.f8 false true false false) := by
  refine returnsInHanded_of_change_sized (C := Try.checked) own started (by kernel_rfl) Try.func8
    (ChangeSpec.witness6 (enc := enc) (C := Try.checked) false ⟨#[], #[.string ByteArray.empty, .string ByteArray.empty], []⟩ 8 (by kernel_rfl) (by kernel_rfl) (by kernel_rfl) (by kernel_rfl)) ?_
  intro W base args ds gs before hval0 hW _ hsz0 _
  have hval : ∀ (j : Nat) t v, Try.f8.params[j]? = some t → args[j]? = some v → Value.okWide Try.prog W .any base t v := hval0
  have hsz : (DataW.weightsEach Try.prog (Try.f8.params.toList ++ Rows.syntaxFirstSpec.plain.varTypes Try.prog) (ds ++ gs)).all (· ≤ reachBytes) = true := hsz0
  have hW' := hW
  obtain ⟨p, q, hA0, hV, rfl, hfz, hnd⟩ := hW
  have hA : DataW.TrodAll enc Try.prog W 0 (fun _ => true) true Try.f8.params.toList args.toList ds p := hA0
  rw [Try.params8] at hA hval hsz
  obtain ⟨v0, vs0, d0, ds0, p0, q0, hargs, rfl, rfl, h0, r0⟩ := trodAll_cons hA
  obtain ⟨v1, vs1, d1, ds1, p1, q1, rfl, rfl, rfl, h1, r1⟩ := trodAll_cons r0
  obtain ⟨rfl, rfl, rfl⟩ := trodAll_nil r1
  obtain rfl : args = #[v0, v1] := by cases args; simp_all
  obtain ⟨rfl, rfl⟩ := trodVars_none hV
  obtain ⟨a0, rfl, rfl, rfl, w0⟩ := open_string Try.underlying9 (hval 0 9 v0 rfl rfl) h0
  obtain ⟨a1, rfl, rfl, rfl, w1⟩ := open_string Try.underlying9 (hval 1 9 v1 rfl rfl) h1
  have s0 := str_size (i := 0) hsz rfl rfl
  have s1 := str_size (i := 1) hsz rfl rfl
  clear hA0 hval0
  refine (first_walk a0 a1 W s0 s1).mono fun e W' ⟨he, bel⟩ => ?_
  subst he
  exact ⟨_, rfl, _, _, _, [], _, [], hW', trodAll_mk1 (shut_bool Try.underlying4 _), (trodAll_cons_mk (shut_string Try.underlying9 w0) (trodAll_cons_mk (shut_string Try.underlying9 w1) trodAll_mk0)), rfl, bel.frame _, fun h => by cases h⟩
end syntaxFirst

theorem syntaxFirst_holds : Rows.SyntaxFirstSaid :=
  OpenClaim.holds_of_wide 8 Try.f8 rfl rfl rfl rfl rfl rfl rfl ⟨rfl, rfl, rfl, rfl, rfl⟩ rfl rfl rfl rfl rfl (by kernel_rfl) Try.func8 (by kernel_rfl)
    (of_decide_eq_true (by kernel_rfl)) (by unfold Func.isWrapper; first | (rw [if_pos (by decide +kernel)]; kernel_rfl) | (rw [if_neg (by decide +kernel)]; exact ⟨rfl, rfl⟩))
    (fun os started H enc _ => syntaxFirst.lifted os started H enc)
end Go.Proofs.Ytnnmhmlebffacaa
