/-
  LexPlaces is proved for every input: what lex.Scan tells stands where it is told, rising, the end at the end; a name is a name, a word a word; what is wrong stands within. No condition.
-/
import Derived.Test.YtjhbofnfaidhfaaRows
import Derived.Test.YtjhbofnfaidhfaaCat
import Derived.Test.YtjhbofnfaidhfaaPlP
import Derived.WalkKit
import Derived.ProofKit
import Derived.OpenShut
import Derived.ShutString
import Derived.ChangeOld
import Derived.Below
namespace Go.Proofs.Ytjhbofnfaidhfaa
open Go.RowKit

theorem piece_eq (s x : ByteArray) (p : Nat) (hp : p ≤ s.size) (h : (s.data.toList.drop p).take x.size = x.data.toList) : (((s.extract p s.size).extract 0 x.size).toList == x.toList) = true ∧ x.size ≤ (s.extract p s.size).size := by
  constructor
  · rw [beq_iff_eq, ByteArray.toList_eq, ByteArray.toList_eq, extract_list, List.drop_zero, drop_list]
    exact h
  · have h2 := congrArg List.length h
    rw [List.length_take, List.length_drop, size_toList, size_toList] at h2
    rw [drop_size]; omega
set_option maxRecDepth 20000 in
set_option maxHeartbeats 2000000 in
theorem shown_calls (s : ByteArray) (k n : Int) (x : ByteArray) (p : Nat) (w : World) (hp : p ≤ s.size) (hx : x.size ≤ 4000)
    (h : (s.data.toList.drop p).take (if k = 5 then x.size + 2 else x.size) = if k = 5 then 34 :: x.data.toList ++ [34] else x.data.toList) :
    Calls Try.prog 17 #[.string s, .agg #[.int .i64 k, .int .i64 n, .string x, .int .i64 (p : Int)]] w fun e w' => e = .returned (.bool true) ∧ Below w.heap.size w w' := by
  have hd1 : decide ((p : Int) < 0) = false := by simp
  have hd2 : decide ((s.size : Int) < (p : Int)) = false := by simp; omega
  by_cases hk : k = 5
  · subst hk
    rw [if_pos rfl, if_pos rfl] at h
    have z1 : (⟨#[34]⟩ : ByteArray).size = 1 := rfl
    obtain ⟨c1, d1, n1, e1⟩ := cat_var ⟨#[34]⟩ x (by omega)
    obtain ⟨c2, d2, n2, e2⟩ := cat_var c1 ⟨#[34]⟩ (by omega)
    have hc2 : c2.data.toList = 34 :: x.data.toList ++ [34] := by rw [d2, d1]; rfl
    have hn2 : c2.size = x.size + 2 := by omega
    obtain ⟨hq, hl⟩ := piece_eq s c2 p hp (by rw [hn2, hc2]; exact h)
    have hrs := drop_size s p
    have hge : decide ((c2.size : Int) ≤ ((s.extract p s.size).size : Int)) = true := by simp; rw [hrs] at hl; omega
    generalize hR : s.extract p s.size = R at *
    have hrun : ∀ w, (Instr.slice 9 (.string s) (some (.int .i64 (p : Int))) none none).run Try.prog w = .ok (.string R) w := fun w => by
      rw [← hR]; go_simp
    clear d1 d2 n1 n2 z1 h hc2 hn2 hR hrs
    go_enter Try.func17, Try.ntmps17
    go_wp2
    go_ret
    exact ⟨rfl, (Below.refl _ _).alloc (Nat.le_refl _) _⟩
  · rw [if_neg hk, if_neg hk] at h
    have hk5 : (k == 5) = false := by rw [beq_eq_false_iff_ne]; exact hk
    obtain ⟨hq, hl⟩ := piece_eq s x p hp h
    have hrs := drop_size s p
    have hge : decide ((x.size : Int) ≤ ((s.extract p s.size).size : Int)) = true := by simp; rw [hrs] at hl; omega
    generalize hR : s.extract p s.size = R at *
    have hrun : ∀ w, (Instr.slice 9 (.string s) (some (.int .i64 (p : Int))) none none).run Try.prog w = .ok (.string R) w := fun w => by
      rw [← hR]; go_simp
    clear h hR hrs hk
    go_enter Try.func17, Try.ntmps17
    go_wp2
    go_ret
    exact ⟨rfl, (Below.refl _ _).alloc (Nat.le_refl _) _⟩
theorem shown_good {S : List UInt8} {t : Tk} (h : Good S t) : (S.drop t.pl).take (if t.kind = 5 then (bs t.text).size + 2 else (bs t.text).size) = if t.kind = 5 then 34 :: (bs t.text).data.toList ++ [34] else (bs t.text).data.toList := by
  rw [bs_list, bs_size]
  have hc := tk_cases (p := t.pl) h.some h.right
  rw [← h.is] at hc
  rcases hc with ⟨h1, h2⟩ | ⟨h1, _, _, h2⟩ | ⟨h1, _, _, h2⟩ | ⟨h1, h2, _⟩ | ⟨h1, _, h2⟩
  · rw [if_neg (by rw [h1]; decide), if_neg (by rw [h1]; decide), h2]; rfl
  · rw [if_neg (by rw [h1]; decide), if_neg (by rw [h1]; decide), h2]
  · rw [if_neg (by rw [h1]; decide), if_neg (by rw [h1]; decide), h2]
  · rw [if_pos h1, if_pos h1, h2]
  · rw [if_neg (by rw [h1]; decide), if_neg (by rw [h1]; decide), h2]
/-- What the kinds say of a token's text. -/
theorem good_kinds {S : List UInt8} {t : Tk} (h : Good S t) : (t.kind = 2 ∧ (bs t.text).toList = []) ∨ (t.kind = 3 ∧ nameB t.text = true ∧ (bs t.text).toList ≠ []) ∨ (t.kind = 4 ∧ wordB t.text = true ∧ (bs t.text).toList ≠ []) ∨ t.kind = 5 ∨ (t.kind = 6 ∧ (bs t.text).toList ≠ []) := by
  rw [bs_toList]
  have hc := tk_cases (p := t.pl) h.some h.right
  rw [← h.is] at hc
  rcases hc with ⟨h1, h2⟩ | ⟨h1, h2, h3, _⟩ | ⟨h1, h2, h3, _⟩ | ⟨h1, _⟩ | ⟨h1, h3, _⟩
  · exact .inl ⟨h1, h2⟩
  · exact .inr (.inl ⟨h1, h2, h3⟩)
  · exact .inr (.inr (.inl ⟨h1, h2, h3⟩))
  · exact .inr (.inr (.inr (.inl h1)))
  · exact .inr (.inr (.inr (.inr ⟨h1, h3⟩)))

set_option maxRecDepth 20000 in
set_option maxHeartbeats 8000000 in
theorem places_walk (s : ByteArray) (w : World) (_ : s.size ≤ maxLen) :
    Calls Try.prog 5 #[.string s] w fun e w' => e = .returned (.bool true) ∧ Below w.heap.size w w' := by
  have HA : Hid (∀ w, Calls Try.prog 12 #[] w fun e w' => e = .returned (.bool true) ∧ Below w.heap.size w w') := fun w => awake_calls w
  have HS : Hid (∀ w, Calls Try.prog 9 #[.string s] w fun e w' => ScanPost (scanB s.data.toList) w e w') := fun w => scan_calls s w
  by_cases hz : (scanB s.data.toList).2.2 = 0
  · obtain ⟨hlen, hp0, T, hT, hgood, hrise⟩ := scan_good hz
    have hok := scan_ok s.data.toList
    have hfw := scan_few s.data.toList
    rw [size_toList] at hlen hT
    generalize scanB s.data.toList = A at *
    obtain ⟨l, p0, z⟩ := A
    simp only at hz hp0 hT hrise hok hfw
    subst hz hp0
    have HT : Hid (l = T ++ [endTk s.size]) := hT
    have HG : Hid (∀ t ∈ T, Good s.data.toList t) := hgood
    have HRs : Hid (l.Pairwise fun a b => a.pl < b.pl) := hrise
    have HK : Hid (∀ r ∈ l, TkOk r) := hok
    have hl1 : l.length = T.length + 1 := by rw [hT]; simp
    obtain ⟨n, hn⟩ : ∃ n, n = l.length := ⟨_, rfl⟩
    have hnm : (n : Int) - 1 = (T.length : Int) := by omega
    have hn0 : ((n : Int) == 0) = false := by rw [beq_eq_false_iff_ne]; omega
    have hmn : T.length < n := by omega
    have hfew : n ≤ 4001 := by
      rw [hn]; exact hfw
    clear hT hgood hrise hok
    go_enter Try.func5, Try.ntmps5
    go_wp2_with fail
    refine (HA.out _).mono ?_
    rintro e w1 ⟨rfl, hb1⟩
    have HB1 : Hid (Below w.heap.size w w1) := hb1
    clear hb1 HA
    go_wp2_with fail
    refine (HS.out _).mono ?_
    rintro e w2 ⟨v, rfl, ho2, hb2⟩
    simp only at ho2
    rw [← hn] at ho2
    obtain ⟨g, cap, rfl, hbg, hlc, _, hgs⟩ := owned_some ho2 (by omega)
    have HO2 : Hid (w2.ownsRow w1.heap.size 28 4 (.slice (some ⟨g, 0, none⟩) n cap) n (rowCells l)) := ho2
    have HB2 : Hid (Below w.heap.size w w2) := HB1.out.trans (hb2.mono HB1.out.size)
    have hlast : l[T.length]? = some (endTk s.size) := by rw [HT.out]; simp
    obtain ⟨a0, a1, a2, a3⟩ := owned_tk ho2 hlast
    have a0' : w2.cell? ⟨g, T.length * 4, none⟩ = some (.int .i64 1) := a0
    have a1' : w2.cell? ⟨g, T.length * 4 + 1, none⟩ = some (.int .i64 0) := a1
    have a2' : w2.cell? ⟨g, T.length * 4 + 2, none⟩ = some (.string ⟨#[]⟩) := a2
    have a3' : w2.cell? ⟨g, T.length * 4 + 3, none⟩ = some (.int .i64 (s.size : Int)) := a3
    have hgd := guard28
    clear ho2 hb2 HB1 HS a0 a1 a2 a3 hlast
    generalize hm : T.length = m at *
    clear hn hl1
    go_wp2
    clear a0' a1' a2' a3'
    go_loopw [7] (fun i wr => ∃ k : Nat, k ≤ m ∧ i = .int .i64 k ∧ wr.ownsRow w1.heap.size 28 4 (.slice (some ⟨g, 0, none⟩) n cap) n (rowCells l) ∧ Below w.heap.size w wr) (fun i _ => m - (intOf i).toNat)
    case atStart => exact ⟨0, Nat.zero_le _, rfl, HO2.out, HB2.out⟩
    case round =>
      obtain ⟨k, hk, rfl, hown, hbw⟩ := hrel
      obtain ⟨q, hq⟩ : ∃ q : Nat, q = k + 1 := ⟨_, rfl⟩
      have hkq : (k : Int) + 1 = (q : Int) := by omega
      clear HO2 HB2
      by_cases hlt : k < m
      · have hqn : q < n := by omega
        have hdq : decide ((q : Int) < (n : Int)) = true := by simp; omega
        have hwq : IntKind.i64.wrap (q : Int) = (q : Int) := (IntWalk.i64_left _).trans (by unfold wrap64; omega)
        obtain ⟨t, ht⟩ : ∃ t, T[k]? = some t := ⟨_, List.getElem?_eq_getElem (by rw [hm]; exact hlt)⟩
        have hlk : l[k]? = some t := by
          rw [HT.out, List.getElem?_append_left (by rw [hm]; exact hlt)]; exact ht
        have hll : l.length = n := by have := hown.1; rw [rowCells_length] at this; omega
        obtain ⟨t', ht'⟩ : ∃ t', l[q]? = some t' := ⟨_, List.getElem?_eq_getElem (by rw [hll]; exact hqn)⟩
        have hgt := HG.out t (List.mem_of_getElem? ht)
        have htok := HK.out t (List.mem_of_getElem? hlk)
        have hlt2 : t.pl < t'.pl := by
          obtain ⟨h1, h2⟩ := List.getElem?_eq_some_iff.1 hlk
          obtain ⟨h3, h4⟩ := List.getElem?_eq_some_iff.1 ht'
          have := List.pairwise_iff_getElem.1 HRs.out k q h1 h3 (by omega)
          rw [h2, h4] at this; exact this
        have htok' := HK.out t' (List.mem_of_getElem? ht')
        obtain ⟨x0, x1, x2, x3⟩ := owned_tk hown hlk
        have HSh : Hid (∀ w, Calls Try.prog 17 #[.string s, .agg #[.int .i64 t.kind, .int .i64 t.num, .string (bs t.text), .int .i64 (t.pl : Int)]] w fun e w' => e = .returned (.bool true) ∧ Below w.heap.size w w') := fun w =>
          shown_calls s t.kind t.num (bs t.text) t.pl w (by have := hgt.lt; rw [size_toList] at this; omega) (by rw [bs_size]; exact htok.text) (shown_good hgt)
        have HNm : Hid (∀ w, Calls Try.prog 13 #[.string (bs t.text)] w fun e w' => e = .returned (.bool (nameB t.text)) ∧ Below w.heap.size w w') := fun w => by
          have h := isName_calls (bs t.text) w
          rw [bs_list] at h; exact h
        have HWd : Hid (∀ w, Calls Try.prog 14 #[.string (bs t.text)] w fun e w' => e = .returned (.bool (wordB t.text)) ∧ w' = w) := fun w => by
          have h := isWord_calls (bs t.text) w
          rw [bs_list] at h; exact h
        have hkinds := good_kinds hgt
        have hge : decide ((t'.pl : Int) ≤ (t.pl : Int)) = false := by simp; omega
        have hge2 : decide (t'.pl ≤ t.pl) = false := by simp; omega
        have HOw : Hid (wr.ownsRow w1.heap.size 28 4 (.slice (some ⟨g, 0, none⟩) n cap) n (rowCells l)) := hown
        have HBw : Hid (Below w.heap.size w wr) := hbw
        have HTq : Hid (l[q]? = some t') := ht'
        have hpl : t.pl ≤ 4000 := htok.pl
        have hpl' : t'.pl ≤ 4000 := htok'.pl
        clear ht hlk hll hgt htok htok' hown hbw ht' hlt2 hq
        generalize t.kind = kd at *
        generalize t.num = nm at *
        generalize nameB t.text = nb at *
        generalize wordB t.text = wb at *
        generalize bs t.text = tx at *
        generalize t.pl = pl at *
        generalize hpq : t'.pl = pl' at *
        have HPq : Hid (t'.pl = pl') := hpq
        clear hpq
        go_wp2_with fail
        refine (HSh.out _).mono ?_
        rintro e w3 ⟨rfl, hb3⟩
        have hbox : w3.heap[wr.heap.size]? = some (.cells #[.int .i64 kd, .int .i64 nm, .string tx, .int .i64 (pl : Int)] 28 (0, 0)) := by rw [hb3.block _ (by simp)]; exact heap_alloc_new wr _
        have HO3 : Hid (w3.ownsRow w1.heap.size 28 4 (.slice (some ⟨g, 0, none⟩) n cap) n (rowCells l)) := owned_below (HOw.out.alloc _) hb3
        have HB3 : Hid (Below w.heap.size w w3) := HBw.out.trans ((below_box hb3).mono HBw.out.size)
        have HX3 : Hid (w3.heap[wr.heap.size]? = some (.cells #[.int .i64 kd, .int .i64 nm, .string tx, .int .i64 (pl : Int)] 28 (0, 0))) := hbox
        obtain ⟨y0, y1, y2, y3, yf⟩ := block4 hbox
        clear hbox hb3 HOw HBw HSh x0 x1 x2 x3
        go_wp2_with fail
        refine (HNm.out _).mono ?_
        rintro e w4 ⟨rfl, hb4⟩
        have hbox := keepB HX3.out hb4
        have HO4 : Hid (w4.ownsRow w1.heap.size 28 4 (.slice (some ⟨g, 0, none⟩) n cap) n (rowCells l)) := owned_below HO3.out hb4
        have HB4 : Hid (Below w.heap.size w w4) := HB3.out.trans (hb4.mono HB3.out.size)
        clear y0 y1 y2 y3 yf
        obtain ⟨y0, y1, y2, y3, yf⟩ := block4 hbox
        obtain ⟨_, _, _, v3⟩ := owned_tk HO4.out HTq.out
        rw [HPq.out] at v3
        clear hbox hb4 HO3 HB3 HX3 HNm
        go_wp2_with (go_at_call 14; refine (HWd.out _).mono ?_; rintro e w' ⟨rfl, rfl⟩)
        rcases hkinds with ⟨rfl, ht0⟩ | ⟨rfl, rfl, ht0⟩ | ⟨rfl, rfl, ht0⟩ | rfl | ⟨rfl, ht0⟩
        · have hte : (tx.toList == []) = true := by rw [ht0]; rfl
          clear ht0
          go_quiet (fail)
          go_wp2
          go_roundw
          case rel => exact ⟨q, by omega, rfl, owned_below HO4.out (below_drewN (Below.refl _ _) nq), below_drewN HB4.out nq⟩
          case measure => simp [intOf]; omega
        · have hte : (tx.toList == []) = false := by rw [beq_eq_false_iff_ne]; exact ht0
          clear ht0
          go_quiet (fail)
          go_wp2
          go_roundw
          case rel => exact ⟨q, by omega, rfl, owned_below HO4.out (below_drewN (Below.refl _ _) nq), below_drewN HB4.out nq⟩
          case measure => simp [intOf]; omega
        · have hte : (tx.toList == []) = false := by rw [beq_eq_false_iff_ne]; exact ht0
          clear ht0
          go_quiet (fail)
          go_wp2
          go_roundw
          case rel => exact ⟨q, by omega, rfl, owned_below HO4.out (below_drewN (Below.refl _ _) nq), below_drewN HB4.out nq⟩
          case measure => simp [intOf]; omega
        · cases hte : (tx.toList == []) <;> (
            go_quiet (fail)
            go_wp2
            go_roundw
            case rel => exact ⟨q, by omega, rfl, owned_below HO4.out (below_drewN (Below.refl _ _) nq), below_drewN HB4.out nq⟩
            case measure => simp [intOf]; omega)
        · have hte : (tx.toList == []) = false := by rw [beq_eq_false_iff_ne]; exact ht0
          clear ht0
          go_quiet (fail)
          go_wp2
          go_roundw
          case rel => exact ⟨q, by omega, rfl, owned_below HO4.out (below_drewN (Below.refl _ _) nq), below_drewN HB4.out nq⟩
          case measure => simp [intOf]; omega
      · have hdq : decide ((q : Int) < (n : Int)) = false := by simp; omega
        have HBw : Hid (Below w.heap.size w wr) := hbw
        have hqn : ¬ q < n := by omega
        clear hown hbw hq
        go_wp2
        go_ret
        exact ⟨rfl, HBw.out⟩
  · have hl0 := scan_empty hz
    have hpl := scan_place s.data.toList
    rw [size_toList] at hpl
    generalize scanB s.data.toList = A at *
    obtain ⟨l, p0, z⟩ := A
    simp only at hz hl0 hpl
    subst hl0
    have hzb : (z != 0) = true := by rw [bne_iff_ne]; exact hz
    have h1 : decide ((0 : Int) ≤ (p0 : Int)) = true := by simp
    have h2 : decide ((p0 : Int) ≤ (s.size : Int)) = true := by simp; omega
    clear hz
    go_enter Try.func5, Try.ntmps5
    go_wp2_with fail
    refine (HA.out _).mono ?_
    rintro e w1 ⟨rfl, hb1⟩
    have HB1 : Hid (Below w.heap.size w w1) := hb1
    clear hb1 HA
    go_wp2_with fail
    refine (HS.out _).mono ?_
    rintro e w2 ⟨v, rfl, ho2, hb2⟩
    obtain ⟨ao, cap, rfl⟩ := owned_shape ho2
    have HB2 : Hid (Below w.heap.size w w2) := HB1.out.trans (hb2.mono HB1.out.size)
    clear ho2 hb2 HB1 HS
    go_wp2
    go_ret
    exact ⟨rfl, HB2.out⟩

namespace lexPlaces
open Go.ChangeShapes Go.WideShapes Go.ChangeAt Go.RowKit
open Go.ChangeMaps (open_string shut_string)
theorem own : ownKnob Try.prog.godebug = none := by kernel_rfl

set_option maxRecDepth 100000 in
theorem lifted (os : Os) (started : os.Started) (H : Type) (enc : TypeId × Value → H) :
    ReturnsInHanded {} Try.checked os 5 .any (Rows.lexPlacesSpec.pre6 enc Try.prog Try.f5 Rows.lexPlacesRow.domain false) (Rows.lexPlacesSpec.post enc Try.prog Try.f5 false true false false) := by
  refine returnsInHanded_of_change (C := Try.checked) own started (by kernel_rfl) Try.func5
    (ChangeSpec.witness6 (enc := enc) (C := Try.checked) false ⟨#[], #[.string ByteArray.empty], []⟩ 8 (by kernel_rfl) (by kernel_rfl) (by kernel_rfl) (by kernel_rfl)) ?_
  intro W base args ds gs before hval0 hW _ _
  have hval : ∀ (j : Nat) t v, Try.f5.params[j]? = some t → args[j]? = some v → Value.okWide Try.prog W .any base t v := hval0
  have hW' := hW
  obtain ⟨p, q, hA0, hV, rfl, hfz, hnd⟩ := hW
  have hA : DataW.TrodAll enc Try.prog W 0 (fun _ => true) true Try.f5.params.toList args.toList ds p := hA0
  rw [Try.params5] at hA hval
  obtain ⟨v0, vs0, d0, ds0, p0, q0, hargs, rfl, rfl, h0, r0⟩ := trodAll_cons hA
  obtain ⟨rfl, rfl, rfl⟩ := trodAll_nil r0
  obtain rfl : args = #[v0] := by cases args; simp_all
  obtain ⟨rfl, rfl⟩ := trodVars_none hV
  obtain ⟨a0, rfl, rfl, rfl, w0⟩ := open_string Try.underlying9 (hval 0 9 v0 rfl rfl) h0
  clear hA0 hval0
  refine (places_walk a0 W w0).mono fun e W' ⟨he, bel⟩ => ?_
  subst he
  exact ⟨_, rfl, _, _, _, [], _, [], hW', trodAll_mk1 (shut_bool Try.underlying4 _), (trodAll_cons_mk (shut_string Try.underlying9 w0) trodAll_mk0), rfl, bel.frame _, fun h => by cases h⟩
end lexPlaces

theorem lexPlaces_holds : Rows.LexPlacesSaid :=
  OpenClaim.holds_of_wide 5 Try.f5 rfl rfl rfl rfl rfl rfl rfl ⟨rfl, rfl, rfl, rfl, rfl⟩ rfl rfl rfl rfl rfl (by kernel_rfl) Try.func5 (by kernel_rfl)
    (of_decide_eq_true (by kernel_rfl)) (by unfold Func.isWrapper; first | (rw [if_pos (by decide +kernel)]; kernel_rfl) | (rw [if_neg (by decide +kernel)]; exact ⟨rfl, rfl⟩))
    (fun os started H enc _ => lexPlaces.lifted os started H enc)
end Go.Proofs.Ytjhbofnfaidhfaa
