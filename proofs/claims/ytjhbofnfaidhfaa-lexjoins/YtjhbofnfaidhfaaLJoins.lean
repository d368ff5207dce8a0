/-
  LexJoins is proved for every input: of two sources with a line's end between them lex.Scan tells the tokens of both, or what is wrong with the first one that has something wrong. No condition.
-/
import Derived.Test.YtjhbofnfaidhfaaRows
import Derived.Test.YtjhbofnfaidhfaaCat
import Derived.Test.YtjhbofnfaidhfaaJoinP
import Derived.WalkKit
import Derived.ProofKit
import Derived.OpenShut
import Derived.ShutString
import Derived.ChangeOld
import Derived.Below
namespace Go.Proofs.Ytjhbofnfaidhfaa
open Go.RowKit

theorem tks_cells {w : World} {ao : Option Addr} {n : Nat} {l : List Tk} (h : TksAt w ao n l) (h0 : 0 < n) : ∃ b off, ao = some ⟨b, off, none⟩ := by
  obtain ⟨b, off, e, _⟩ := h.cells h0
  exact ⟨b, off, e⟩
theorem tks_at {w : World} {b off n : Nat} {l : List Tk} (h : TksAt w (some ⟨b, off, none⟩) n l) {i : Nat} {t : Tk} (hi : l[i]? = some t) :
    w.cell? ⟨b, off + i * 4, none⟩ = some (.int .i64 t.kind) ∧ w.cell? ⟨b, off + i * 4 + 1, none⟩ = some (.int .i64 t.num) ∧ w.cell? ⟨b, off + i * 4 + 2, none⟩ = some (.string (bs t.text)) ∧ w.cell? ⟨b, off + i * 4 + 3, none⟩ = some (.int .i64 (t.pl : Int)) := by
  have hlt : i < n := by rw [← h.length]; exact (List.getElem?_eq_some_iff.1 hi).1
  obtain ⟨b', off', e, hc⟩ := h.cells (by omega)
  cases e
  exact hc i t hi
theorem tks_new {w : World} {b off n : Nat} {l : List Tk} (h : TksAt w (some ⟨b, off, none⟩) n l) {i : Nat} {t : Tk} (hi : l[i]? = some t) (o : Obj) :
    (w.alloc o).cell? ⟨b, off + i * 4, none⟩ = some (.int .i64 t.kind) ∧ (w.alloc o).cell? ⟨b, off + i * 4 + 1, none⟩ = some (.int .i64 t.num) ∧ (w.alloc o).cell? ⟨b, off + i * 4 + 2, none⟩ = some (.string (bs t.text)) ∧ (w.alloc o).cell? ⟨b, off + i * 4 + 3, none⟩ = some (.int .i64 (t.pl : Int)) :=
  tks_at (h.below ((Below.refl _ _).alloc (Nat.le_refl _) o)) hi
/-- The three answers and the world. -/
structure J3 (w : World) (ao bo co : Option Addr) (na nb nc : Nat) (la lb lc : List Tk) (W : World) : Prop where
  a : TksAt W ao na la
  b : TksAt W bo nb lb
  c : TksAt W co nc lc
  low : Below w.heap.size w W
theorem J3.next {w W W' : World} {ao bo co : Option Addr} {na nb nc : Nat} {la lb lc : List Tk} (h : J3 w ao bo co na nb nc la lb lc W) (hb : Below W.heap.size W W') : J3 w ao bo co na nb nc la lb lc W' :=
  ⟨h.a.below hb, h.b.below hb, h.c.below hb, h.low.trans (hb.mono h.low.size)⟩

set_option maxRecDepth 20000 in
set_option maxHeartbeats 8000000 in
theorem joins_walk (s t : ByteArray) (w : World) (hs0 : s.size ≤ 140737488351232) (ht0 : t.size ≤ 140737488351232) :
    Calls Try.prog 7 #[.string s, .string t] w fun e w' => e = .returned (.bool true) ∧ Below w.heap.size w w' := by
  have HA : Hid (∀ w, Calls Try.prog 12 #[] w fun e w' => e = .returned (.bool true) ∧ Below w.heap.size w w') := fun w => awake_calls w
  by_cases hbig : 4000 < s.size + t.size + 1
  · have hd : decide ((4000 : Int) < (s.size : Int) + (t.size : Int) + 1) = true := by simp; omega
    go_enter Try.func7, Try.ntmps7
    go_wp2_with fail
    refine (HA.out _).mono ?_
    rintro e w1 ⟨rfl, hb1⟩
    go_wp2
    go_ret
    exact ⟨rfl, hb1⟩
  have hlen : s.size + t.size + 1 ≤ 4000 := by omega
  have hd : decide ((4000 : Int) < (s.size : Int) + (t.size : Int) + 1) = false := by simp; omega
  have z1 : (⟨#[10]⟩ : ByteArray).size = 1 := rfl
  obtain ⟨c1, d1, n1, e1⟩ := cat_var s ⟨#[10]⟩ (by omega)
  obtain ⟨c2, d2, n2, e2⟩ := cat_var c1 t (by omega)
  have hU : c2.data.toList = s.data.toList ++ 10 :: t.data.toList := by
    rw [d2, d1, show (⟨#[10]⟩ : ByteArray).data.toList = [10] from rfl]; simp
  have HS1 : Hid (∀ w, Calls Try.prog 9 #[.string s] w fun e w' => ScanPost (scanB s.data.toList) w e w') := fun w => scan_calls s w
  have HS2 : Hid (∀ w, Calls Try.prog 9 #[.string t] w fun e w' => ScanPost (scanB t.data.toList) w e w') := fun w => scan_calls t w
  have HS3 : Hid (∀ w, Calls Try.prog 9 #[.string c2] w fun e w' => ScanPost (scanB (s.data.toList ++ 10 :: t.data.toList)) w e w') := fun w => by
    have h := scan_calls c2 w
    rw [hU] at h; exact h
  obtain ⟨j1, j2, j3⟩ := scan_join (S := s.data.toList) (T := t.data.toList) (by rw [size_toList, size_toList]; omega)
  rw [size_toList] at j2 j3
  have hok1 := scan_ok s.data.toList
  have hok2 := scan_ok t.data.toList
  have hok3 := scan_ok (s.data.toList ++ 10 :: t.data.toList)
  have hf1 := scan_few s.data.toList
  have hf2 := scan_few t.data.toList
  have hf3 := scan_few (s.data.toList ++ 10 :: t.data.toList)
  have hpb0 := scan_place t.data.toList
  rw [size_toList] at hpb0
  clear d1 d2 n1 n2 z1 hU hbig
  generalize scanB (s.data.toList ++ 10 :: t.data.toList) = AC at *
  generalize scanB s.data.toList = AA at *
  generalize scanB t.data.toList = AB at *
  obtain ⟨la, pa, za⟩ := AA
  obtain ⟨lb, pb, zb⟩ := AB
  obtain ⟨lc, pc, zc⟩ := AC
  simp only at j1 j2 j3 hok1 hok2 hok3 hf1 hf2 hf3 hpb0
  have HOk : Hid ((∀ r ∈ la, TkOk r) ∧ (∀ r ∈ lb, TkOk r) ∧ (∀ r ∈ lc, TkOk r)) := ⟨hok1, hok2, hok3⟩
  have HJ : Hid ((za ≠ 0 → (pc, zc) = (pa, za)) ∧ (za = 0 → zb ≠ 0 → (pc, zc) = (s.size + 1 + pb, zb)) ∧ (za = 0 → zb = 0 → ∃ A, (la, pa, za) = (A ++ [endTk s.size], 0, 0) ∧ (lc, pc, zc) = (A ++ lb.map (shiftT (s.size + 1)), 0, 0))) := ⟨j1, j2, j3⟩
  clear j1 j2 j3 hok1 hok2 hok3
  go_enter Try.func7, Try.ntmps7
  go_wp2_with fail
  refine (HA.out _).mono ?_
  rintro e w1 ⟨rfl, hb1⟩
  have HB1 : Hid (Below w.heap.size w w1) := hb1
  clear hb1 HA
  go_wp2_with fail
  refine (HS1.out _).mono ?_
  rintro e w2 ⟨v2, rfl, ho2, hb2⟩
  simp only at ho2
  obtain ⟨ao, ca, rfl⟩ := owned_shape ho2
  have HT2 : Hid (TksAt w2 ao la.length la) := owned_tks ho2 HOk.out.1
  have HB2 : Hid (Below w.heap.size w w2) := HB1.out.trans (hb2.mono HB1.out.size)
  clear ho2 hb2 HB1 HS1
  go_wp2_with fail
  refine (HS2.out _).mono ?_
  rintro e w3 ⟨v3, rfl, ho3, hb3⟩
  simp only at ho3
  obtain ⟨bo, cb, rfl⟩ := owned_shape ho3
  have HT3 : Hid (TksAt w3 ao la.length la ∧ TksAt w3 bo lb.length lb ∧ Below w.heap.size w w3) := ⟨HT2.out.below hb3, owned_tks ho3 HOk.out.2.1, HB2.out.trans (hb3.mono HB2.out.size)⟩
  clear ho3 hb3 HB2 HS2 HT2
  go_wp2_with fail
  refine (HS3.out _).mono ?_
  rintro e w4 ⟨v4, rfl, ho4, hb4⟩
  simp only at ho4
  obtain ⟨co, cc, rfl⟩ := owned_shape ho4
  have HT4 : Hid (J3 w ao bo co la.length lb.length lc.length la lb lc w4) := ⟨HT3.out.1.below hb4, HT3.out.2.1.below hb4, owned_tks ho4 HOk.out.2.2, HT3.out.2.2.trans (hb4.mono HT3.out.2.2.size)⟩
  clear ho4 hb4 HS3 HT3
  by_cases hza : za = 0
  · by_cases hzb : zb = 0
    · obtain ⟨A, hA1, hA2⟩ := HJ.out.2.2 hza hzb
      simp only [Prod.mk.injEq] at hA1 hA2
      obtain ⟨hla, rfl, rfl⟩ := hA1
      obtain ⟨hlc, rfl, rfl⟩ := hA2
      subst hzb
      have hnA : la.length = A.length + 1 := by rw [hla]; simp
      have hnC : lc.length = A.length + lb.length := by rw [hlc]; simp
      have HLa : Hid (∀ k t, A[k]? = some t → la[k]? = some t ∧ lc[k]? = some t) := fun k t h => by
        have hk := (List.getElem?_eq_some_iff.1 h).1
        rw [hla, hlc, List.getElem?_append_left hk, List.getElem?_append_left hk]
        exact ⟨h, h⟩
      have HLb : Hid (∀ j t, lb[j]? = some t → lc[A.length + j]? = some (shiftT (s.size + 1) t)) := fun j t h => by
        rw [hlc, List.getElem?_append_right (by omega), Nat.add_sub_cancel_left, List.getElem?_map, h]; rfl
      clear hla hlc HJ hza
      generalize hm : A.length = m at *
      generalize hna : la.length = na at *
      generalize hnb : lb.length = nb at *
      generalize hnc : lc.length = nc at *
      have HNb : Hid (lb.length = nb) := hnb
      have HMm : Hid (A.length = m) := hm
      have ha1 : (na : Int) - 1 = (m : Int) := by omega
      have ha0 : ((na : Int) == 0) = false := by rw [beq_eq_false_iff_ne]; omega
      have hcl : ((nc : Int) != (m : Int) + (nb : Int)) = false := by rw [bne_eq_false_iff_eq]; omega
      have HN : Hid (na = m + 1 ∧ nc = m + nb) := ⟨hnA, hnC⟩
      have hna4 : na ≤ 4001 := hf1
      have hnc4 : nc ≤ 4001 := hf3
      clear hna hnb hnc hm hnA hnC
      go_wp2
      go_loopw [15] (fun i wr => ∃ k : Nat, k ≤ nc ∧ i = .int .i64 k ∧ J3 w ao bo co na nb nc la lb lc wr) (fun i _ => nc - (intOf i).toNat)
      case atStart => exact ⟨0, Nat.zero_le _, rfl, HT4.out⟩
      case round =>
        obtain ⟨k, hk, rfl, hj⟩ := hrel
        clear HT4
        by_cases hlt : k < nc
        · have hdk : decide ((k : Int) < (nc : Int)) = true := by simp; omega
          have hgd := guard28
          obtain ⟨gc, oc, rfl⟩ := tks_cells hj.c (by omega)
          by_cases hkm : k < m
          · have hdm : decide ((k : Int) < (m : Int)) = true := by simp; omega
            have hkn : k < na := by have := HN.out; omega
            obtain ⟨t, ht⟩ : ∃ t, A[k]? = some t := ⟨_, List.getElem?_eq_getElem (by rw [HMm.out]; exact hkm)⟩
            obtain ⟨h1, h2⟩ := HLa.out k t ht
            obtain ⟨ga, oa, rfl⟩ := tks_cells hj.a (by omega)
            have x0 := fun o => (tks_new hj.a h1 o).1
            have x1 := fun o => (tks_new hj.a h1 o).2.1
            have x2 := fun o => (tks_new hj.a h1 o).2.2.1
            have x3 := fun o => (tks_new hj.a h1 o).2.2.2
            have y0 := fun o => (tks_new hj.c h2 o).1
            have y1 := fun o => (tks_new hj.c h2 o).2.1
            have y2 := fun o => (tks_new hj.c h2 o).2.2.1
            have y3 := fun o => (tks_new hj.c h2 o).2.2.2
            have heqn := equal_tk t.kind t.num (t.pl : Int) (bs t.text)
            have HI : Hid (J3 w (some ⟨ga, oa, none⟩) bo (some ⟨gc, oc, none⟩) na nb nc la lb lc wr) := hj
            clear h1 h2 ht hj
            generalize t.kind = kd at *
            generalize t.num = nm at *
            generalize bs t.text = tx at *
            generalize t.pl = pl at *
            go_wp2
            go_quiet (fail)
            go_wp2
            go_roundw
            case rel => exact ⟨k + 1, by omega, by go_num, HI.out.next (below_drewN ((Below.refl _ _).alloc (Nat.le_refl _) _) nq)⟩
            case measure => simp [intOf]; omega
          · have hdm : decide ((k : Int) < (m : Int)) = false := by simp; omega
            obtain ⟨j, hjk⟩ : ∃ j : Nat, k = m + j := ⟨k - m, by omega⟩
            have hji : (k : Int) - (na : Int) + 1 = (j : Int) := by have := HN.out; omega
            have hjn : j < nb := by have := HN.out; omega
            obtain ⟨t, ht⟩ : ∃ t, lb[j]? = some t := ⟨_, List.getElem?_eq_getElem (by rw [HNb.out]; exact hjn)⟩
            have h2 := HLb.out j t ht
            rw [← hjk] at h2
            clear hjk
            obtain ⟨gb, ob, rfl⟩ := tks_cells hj.b (by omega)
            have hpl := (HOk.out.2.1 t (List.mem_of_getElem? ht)).pl
            have x0 := fun o => (tks_new hj.b ht o).1
            have x1 := fun o => (tks_new hj.b ht o).2.1
            have x2 := fun o => (tks_new hj.b ht o).2.2.1
            have x3 := fun o => (tks_new hj.b ht o).2.2.2
            have y0 := fun o => (tks_new hj.c h2 o).1
            have y1 := fun o => (tks_new hj.c h2 o).2.1
            have y2 := fun o => (tks_new hj.c h2 o).2.2.1
            have y3 := fun o => (tks_new hj.c h2 o).2.2.2
            simp only [shiftT] at y0 y1 y2 y3
            have heqn := equal_tk t.kind t.num ((s.size + 1 + t.pl : Nat) : Int) (bs t.text)
            have hsum : (t.pl : Int) + (s.size : Int) + 1 = ((s.size + 1 + t.pl : Nat) : Int) := by omega
            have HI : Hid (J3 w ao (some ⟨gb, ob, none⟩) (some ⟨gc, oc, none⟩) na nb nc la lb lc wr) := hj
            clear h2 ht hj
            generalize t.kind = kd at *
            generalize t.num = nm at *
            generalize bs t.text = tx at *
            generalize s.size + 1 + t.pl = pl2 at *
            generalize t.pl = pl at *
            go_wp2
            go_quiet (fail)
            go_wp2
            go_roundw
            case rel => exact ⟨k + 1, by omega, by go_num, HI.out.next (below_drewN ((Below.refl _ _).alloc (Nat.le_refl _) _) nq)⟩
            case measure => simp [intOf]; omega
        · have hdk : decide ((k : Int) < (nc : Int)) = false := by simp; omega
          have HI : Hid (Below w.heap.size w wr) := hj.low
          clear hj
          go_wp2
          go_ret
          exact ⟨rfl, HI.out⟩
    · obtain ⟨rfl, rfl⟩ : pc = s.size + 1 + pb ∧ zc = zb := by simpa using HJ.out.2.1 hza hzb
      have hz0 : (za != 0) = false := by rw [hza]; rfl
      have hzn : (zc != 0) = true := by rw [bne_iff_ne]; exact hzb
      have he1 : (zc == zc) = true := by simp
      have he2 : (((s.size + 1 + pb : Nat) : Int) == (s.size : Int) + 1 + (pb : Int)) = true := by rw [beq_iff_eq]; omega
      have hpb : pb ≤ 4000 := by omega
      have HL : Hid (Below w.heap.size w w4) := HT4.out.low
      clear HJ HT4 hza hzb
      go_wp2
      go_ret
      exact ⟨rfl, HL.out⟩
  · obtain ⟨rfl, rfl⟩ : pc = pa ∧ zc = za := by simpa using HJ.out.1 hza
    have hzn : (zc != 0) = true := by rw [bne_iff_ne]; exact hza
    have he1 : (zc == zc) = true := by simp
    have he2 : ((pc : Int) == (pc : Int)) = true := by simp
    have HL : Hid (Below w.heap.size w w4) := HT4.out.low
    clear HJ HT4 hza
    go_wp2
    go_ret
    exact ⟨rfl, HL.out⟩

theorem str_size {H : Type} {ts : List TypeId} {ds : List (DataW H)} {a : ByteArray} {i : Nat} (h : (DataW.weightsEach Try.prog ts ds).all (· ≤ reachBytes) = true) (ht : ts[i]? = some 9) (hd : ds[i]? = some (.lit (.string a.data.toList))) : a.size ≤ 140737488351232 := by
  have hm : a.data.toList.length ∈ DataW.weights Try.prog 9 (DataW.lit (H := H) (.string a.data.toList)) := by
    simp [DataW.weights]
  have hw : a.data.toList.length ≤ reachBytes := of_decide_eq_true (List.all_eq_true.1 h _ (DataW.weights_mem_each ht hd _ hm))
  unfold reachBytes at hw
  rw [size_toList] at hw
  omega

namespace lexJoins
open Go.ChangeShapes Go.WideShapes Go.ChangeAt Go.RowKit
open Go.ChangeMaps (open_string shut_string)
theorem own : ownKnob Try.prog.godebug = none := by kernel_rfl

set_option maxRecDepth 100000 in
theorem lifted (os : Os) (started : os.Started) (H : Type) (enc : TypeId × Value → H) :
    ReturnsInHanded {} Try.checked os 7 .any (Rows.lexJoinsSpec.pre6 enc Try.prog Try.f7 Rows.lexJoinsRow.domain false) (Rows.lexJoinsSpec.post enc Try.prog Try.f7 false true false false) := by
  refine returnsInHanded_of_change_sized (C := Try.checked) own started (by kernel_rfl) Try.func7
    (ChangeSpec.witness6 (enc := enc) (C := Try.checked) false ⟨#[], #[.string ByteArray.empty, .string ByteArray.empty], []⟩ 8 (by kernel_rfl) (by kernel_rfl) (by kernel_rfl) (by kernel_rfl)) ?_
  intro W base args ds gs before hval0 hW _ hsz0 _
  have hval : ∀ (j : Nat) t v, Try.f7.params[j]? = some t → args[j]? = some v → Value.okWide Try.prog W .any base t v := hval0
  have hsz : (DataW.weightsEach Try.prog (Try.f7.params.toList ++ Rows.lexJoinsSpec.plain.varTypes Try.prog) (ds ++ gs)).all (· ≤ reachBytes) = true := hsz0
  have hW' := hW
  obtain ⟨p, q, hA0, hV, rfl, hfz, hnd⟩ := hW
  have hA : DataW.TrodAll enc Try.prog W 0 (fun _ => true) true Try.f7.params.toList args.toList ds p := hA0
  rw [Try.params7] at hA hval hsz
  obtain ⟨v0, vs0, d0, ds0, p0, q0, hargs, rfl, rfl, h0, r0⟩ := trodAll_cons hA
  obtain ⟨v1, vs1, d1, ds1, p1, q1, rfl, rfl, rfl, h1, r1⟩ := trodAll_cons r0
  obtain ⟨rfl, rfl, rfl⟩ := trodAll_nil r1
  obtain rfl : args = #[v0, v1] := by cases args; simp_all
  obtain ⟨rfl, rfl⟩ := trodVars_none hV
  obtain ⟨a0, rfl, rfl, rfl, w0⟩ := open_string Try.underlying9 (hval 0 9 v0 rfl rfl) h0
  obtain ⟨a1, rfl, rfl, rfl, w1⟩ := open_string Try.underlying9 (hval 1 9 v1 rfl rfl) h1
  have s0 := str_size (i := 0) hsz rfl rfl
  have s1 := str_size (i := 1) hsz rfl rfl
  clear hA0 hval0
  refine (joins_walk a0 a1 W s0 s1).mono fun e W' ⟨he, bel⟩ => ?_
  subst he
  exact ⟨_, rfl, _, _, _, [], _, [], hW', trodAll_mk1 (shut_bool Try.underlying4 _), (trodAll_cons_mk (shut_string Try.underlying9 w0) (trodAll_cons_mk (shut_string Try.underlying9 w1) trodAll_mk0)), rfl, bel.frame _, fun h => by cases h⟩
end lexJoins

theorem lexJoins_holds : Rows.LexJoinsSaid :=
  OpenClaim.holds_of_wide 7 Try.f7 rfl rfl rfl rfl rfl rfl rfl ⟨rfl, rfl, rfl, rfl, rfl⟩ rfl rfl rfl rfl rfl (by kernel_rfl) Try.func7 (by kernel_rfl)
    (of_decide_eq_true (by kernel_rfl)) (by unfold Func.isWrapper; first | (rw [if_pos (by decide +kernel)]; kernel_rfl) | (rw [if_neg (by decide +kernel)]; exact ⟨rfl, rfl⟩))
    (fun os started H enc _ => lexJoins.lifted os started H enc)
end Go.Proofs.Ytjhbofnfaidhfaa
