/-
  CigarBack is proved for every text and any runs: columns by their runs, runs by their text, there and back; the spans are how many columns take a letter. No condition; the tables that the standard library reads are tied to the program's text.
-/
import Derived.Test.YtkecpjgpgnfhmaaDoorRows
import Derived.Test.YtkecpjgpgnfhmaaDoorCards
import Derived.Test.YtkecpjgpgnfhmaaDoorTie
import Derived.Test.YtkecpjgpgnfhmaaDoorAwake
import Derived.Test.YtkecpjgpgnfhmaaDoorLent
import Derived.Test.YtkecpjgpgnfhmaaDoorRefRight
import Derived.Test.YtkecpjgpgnfhmaaDoorBackPlain
import Derived.Deep.DeepCutAuto
namespace Go.Proofs.YtkecpjgpgnfhmaaDoor
open Go.RowKit

theorem of_fits (s : List UInt8) : ((ofA s).1.length ≤ 131072) ∧ ∀ r ∈ (ofA s).1, 1 ≤ r.2 ∧ r.2 ≤ 131072 := by
  unfold ofA
  split
  · exact ⟨by simp, fun _ h => by cases h⟩
  · split
    · have := runs_ok s
      exact ⟨Nat.le_trans this.few (by omega), fun r hr => by have := this.lens r hr; omega⟩
    · exact ⟨by simp, fun _ h => by cases h⟩
theorem of_short {s : List UInt8} {L : List Rn} (h : ofA s = (L, 0)) : s.length ≤ 131072 := by
  unfold ofA at h
  split at h
  · simp at h
  · omega
/-- How many of the bytes from a place on are another one than c. -/
def others (c : UInt8) (s : List UInt8) (k : Nat) : Nat := ((s.drop k).filter fun b => b != c).length
theorem others_at {c b : UInt8} {s : List UInt8} {k : Nat} (h : s[k]? = some b) : others c s k = (if b = c then 0 else 1) + others c s (k + 1) := by
  obtain ⟨hlt, he⟩ := List.getElem?_eq_some_iff.1 h
  unfold others
  rw [List.drop_eq_getElem_cons hlt, he, List.filter_cons]
  by_cases e : b = c
  · simp [e]
  · simp [e]; omega
theorem others_le (c : UInt8) (s : List UInt8) (k : Nat) : others c s k ≤ s.length := by
  unfold others
  exact Nat.le_trans (List.length_filter_le _ _) (by simp)
theorem others_end (c : UInt8) (s : List UInt8) : others c s s.length = 0 := by simp [others]
theorem is73 {a : UInt8} (h : a = 73) : ((a.toNat : Int) == 73) = true := by subst h; rfl
theorem not73 {a : UInt8} (h : a ≠ 73) : ((a.toNat : Int) == 73) = false := nat_byte h

set_option maxRecDepth 100000 in
set_option maxHeartbeats 8000000 in
theorem back_walk (s : ByteArray) (ao : Option Addr) (len cap : Nat) (l : List Rn) (w : World) (htab : TabOk w) (hs : s.size ≤ maxLen) (hz : RnsAt w ao len l ∧ len ≤ cap ∧ (ao = none → len = 0 ∧ cap = 0)) :
    Calls Tryd.prog 6 #[.string s, .slice ao len cap] w fun e w' => e = .returned (.bool true) ∧ Below w.heap.size w w' := by
  obtain ⟨hz, _, _⟩ := hz
  have hlm := hz.short
  have hsm := hs
  unfold maxLen at hlm hsm
  have HTab : Hid (TabOk w) := htab
  have HZ : Hid (RnsAt w ao len l) := hz
  clear hz htab
  by_cases hbig : 2147483647 < len
  · have hd : decide ((2147483647 : Int) < (len : Int)) = true := by simp; omega
    go_enter Tryd.func6, Tryd.ntmps6
    go_wp2
    go_ret
    exact ⟨rfl, Below.refl _ _⟩
  have hd : decide ((2147483647 : Int) < (len : Int)) = false := by simp; omega
  have HOf : Hid (∀ w, Calls Tryd.prog 9 #[.string s] w fun e w' => RunsPost (ofA s.data.toList) w e w') := fun w => of_calls s w hs
  have hfa := of_fits s.data.toList
  clear hs
  go_enter Tryd.func6, Tryd.ntmps6
  go_wp2_with fail
  refine (awake_calls w HTab.out).mono ?_
  rintro e w1 ⟨rfl, hb1⟩
  have HB1 : Hid (Below w.heap.size w w1) := hb1
  clear hb1
  go_wp2_with fail
  refine (HOf.out _).mono ?_
  rintro e w2 ⟨lv, rfl, hlo, hb2⟩
  generalize hA : ofA s.data.toList = A at *
  obtain ⟨L, z⟩ := A
  simp only at hlo hfa
  have HA : Hid (ofA s.data.toList = (L, z)) := hA
  have HB2 : Hid (Below w.heap.size w w2) := HB1.out.trans (hb2.mono HB1.out.size)
  have HFit : Hid (∀ r ∈ L, fitI r.2) := fun r hr => by have := hfa.2 r hr; unfold fitI; omega
  obtain ⟨lao, lcap, rfl⟩ := owned_shape hlo
  have HR2 : Hid (RnsAt w2 lao L.length L) := owned_rns hlo HFit.out
  have hL := hfa.1
  clear hlo hb2 hA hfa HOf HB1
  go_upto_if 30 with (fail)
  go_cut [5] (fun v wc => v = .bool true ∧ Below w.heap.size w wc)
  case first =>
    by_cases hz0 : z = 0
    · subst hz0
      obtain ⟨hr, hc, hsp⟩ := of_back HA.out
      have hsh := of_short HA.out
      rw [size_toList] at hsh
      have HC : Hid (colsA L = (s.data.toList, 0)) := hc
      have HSp : Hid (spansA L = ((others 73 s.data.toList 0 : Int), (others 68 s.data.toList 0 : Int), 0)) := hsp
      clear hr hc hsp HA
      go_wp2_with fail
      refine (columns_calls lao L.length lcap L w2 HR2.out).mono ?_
      rintro e w3 ⟨t, rfl, htd, hb3⟩
      rw [HC.out] at htd ⊢
      simp only at htd
      obtain rfl := byte_ext htd
      have HB3 : Hid (Below w.heap.size w w3) := HB2.out.trans (hb3.mono HB2.out.size)
      have HR3 : Hid (RnsAt w3 lao L.length L) := HR2.out.below hb3
      clear hb3 HR2 HB2 htd HC
      go_wp2_with fail
      refine (spans_calls lao L.length lcap L w3 HR3.out).mono ?_
      rintro e w4 ⟨rfl, hb4⟩
      rw [HSp.out]
      simp only [spansV]
      have HB4 : Hid (Below w.heap.size w w4) := HB3.out.trans (hb4.mono HB3.out.size)
      clear hb4 HR3 HB3 HSp
      go_wp2_with fail
      go_loop [10, 11, 13] (fun x y i => ∃ k : Nat, k ≤ t.size ∧ i = .int .i64 k ∧ x = .int .i64 (others 73 t.data.toList k) ∧ y = .int .i64 (others 68 t.data.toList k)) (fun _ _ i => t.size - (intOf i).toNat)
      case atStart => exact ⟨0, Nat.zero_le _, rfl, rfl, rfl⟩
      case round =>
        obtain ⟨k, hk, rfl, rfl, rfl⟩ := hrel
        have o1 := others_le 73 t.data.toList k
        have o2 := others_le 68 t.data.toList k
        rw [size_toList] at o1 o2
        by_cases hlt : k < t.size
        · have hdk : decide ((k : Int) < (t.size : Int)) = true := by simp; omega
          have hg := getElem?_at t k hlt
          have HX := others_at (c := 73) hg
          have HY := others_at (c := 68) hg
          clear hg
          by_cases h7 : t[k] = 73
          · have e7 := ne_of_beq (is73 h7)
            have h6 : t[k] ≠ 68 := by rw [h7]; decide
            have e6 := ne_of_beq (not68 h6)
            rw [if_pos h7] at HX
            rw [if_neg h6] at HY
            have HX2 : Hid ((others 73 t.data.toList k : Int) = (others 73 t.data.toList (k + 1) : Int)) := by show _ = _; omega
            have HY2 : Hid ((others 68 t.data.toList k : Int) - 1 = (others 68 t.data.toList (k + 1) : Int)) := by show _ = _; omega
            clear h7 h6 HX HY
            go_wp2
            go_round
            case rel => exact ⟨k + 1, by omega, by go_num, val_int HX2.out, val_int HY2.out⟩
            case measure => simp [intOf]; omega
          · have e7 := ne_of_beq (not73 h7)
            rw [if_neg h7] at HX
            have HX2 : Hid ((others 73 t.data.toList k : Int) - 1 = (others 73 t.data.toList (k + 1) : Int)) := by show _ = _; omega
            by_cases h6 : t[k] = 68
            · have e6 := ne_of_beq (is68 h6)
              rw [if_pos h6] at HY
              have HY2 : Hid ((others 68 t.data.toList k : Int) = (others 68 t.data.toList (k + 1) : Int)) := by show _ = _; omega
              clear h7 h6 HX HY
              go_wp2
              go_round
              case rel => exact ⟨k + 1, by omega, by go_num, val_int HX2.out, val_int HY2.out⟩
              case measure => simp [intOf]; omega
            · have e6 := ne_of_beq (not68 h6)
              rw [if_neg h6] at HY
              have HY2 : Hid ((others 68 t.data.toList k : Int) - 1 = (others 68 t.data.toList (k + 1) : Int)) := by show _ = _; omega
              clear h7 h6 HX HY
              go_wp2
              go_round
              case rel => exact ⟨k + 1, by omega, by go_num, val_int HX2.out, val_int HY2.out⟩
              case measure => simp [intOf]; omega
        · have hdk : decide ((k : Int) < (t.size : Int)) = false := by simp; omega
          obtain rfl : k = t.size := by omega
          have x0 : others 73 t.data.toList t.size = 0 := by have := others_end 73 t.data.toList; rwa [size_toList] at this
          have y0 : others 68 t.data.toList t.size = 0 := by have := others_end 68 t.data.toList; rwa [size_toList] at this
          rw [x0, y0]
          have hst : (t.toList != t.toList) = false := by simp
          have hst2 : (t.toList == t.toList) = true := by simp
          clear x0 y0 o1 o2
          go_wp2
          go_meet
          exact ⟨rfl, HB4.out⟩
    · have hzb : (z == 0) = false := by simpa using hz0
      clear hz0
      go_wp2
      go_meet
      exact ⟨rfl, HB2.out⟩
  case rest =>
    obtain ⟨rfl, hbc⟩ := hcut
    have HBC : Hid (Below w.heap.size w wc) := hbc
    clear hbc HB2 HR2 HA HFit
    have HRR : Hid (Calls Tryd.prog 22 #[.slice ao len cap] wc fun e w' => e = .returned (.bool (rightB l)) ∧ Below wc.heap.size wc w') := refRight_calls ao len cap l wc (HZ.out.below HBC.out)
    cases hr : rightB l with
    | false =>
      have HE : Hid (textA l = ([], 40)) := by show _ = _; rw [textA, if_neg (by rw [hr]; decide)]
      rw [hr] at HRR
      clear hr
      go_wp2_with fail
      refine HRR.out.mono ?_
      rintro e w3 ⟨rfl, hb3⟩
      have HB3 : Hid (Below w.heap.size w w3) := HBC.out.trans (hb3.mono HBC.out.size)
      clear hb3 HRR
      go_wp2_with fail
      refine (print_calls ao len cap l w3 (HZ.out.below HB3.out) (HTab.out.below HB3.out)).mono ?_
      rintro e w4 ⟨t, rfl, htd, hb4⟩
      rw [HE.out] at htd ⊢
      simp only at htd
      have hts : (t.toList == []) = true := by rw [ByteArray.toList_eq, htd]; rfl
      have hts2 : t.toList = [] := by rw [ByteArray.toList_eq, htd]
      have HB4 : Hid (Below w.heap.size w w4) := HB3.out.trans (hb4.mono HB3.out.size)
      clear hb4 htd
      go_wp2
      go_ret
      exact ⟨rfl, HB4.out⟩
    | true =>
      obtain ⟨h0, hp⟩ := text_back hr
      have HE : Hid ((textA l).2 = 0) := h0
      have HP : Hid (parseA (textA l).1 = (l, 0)) := hp
      rw [hr] at HRR
      clear hr h0 hp
      go_wp2_with fail
      refine HRR.out.mono ?_
      rintro e w3 ⟨rfl, hb3⟩
      have HB3 : Hid (Below w.heap.size w w3) := HBC.out.trans (hb3.mono HBC.out.size)
      clear hb3 HRR
      go_wp2_with fail
      refine (print_calls ao len cap l w3 (HZ.out.below HB3.out) (HTab.out.below HB3.out)).mono ?_
      rintro e w4 ⟨t, rfl, htd, hb4⟩
      rw [HE.out]
      have HPt : Hid (parseA t.data.toList = (l, 0)) := by show _ = _; rw [htd]; exact HP.out
      have HB4 : Hid (Below w.heap.size w w4) := HB3.out.trans (hb4.mono HB3.out.size)
      clear hb4 htd HE HP
      go_wp2_with fail
      refine (parse_calls t w4).mono ?_
      rintro e w5 ⟨mv, rfl, hmo, hb5⟩
      rw [HPt.out] at hmo ⊢
      simp only at hmo
      obtain ⟨mao, mcap, rfl⟩ := owned_shape hmo
      have HB5 : Hid (Below w.heap.size w w5) := HB4.out.trans (hb5.mono HB4.out.size)
      have HSame : Hid (Calls Tryd.prog 11 #[.slice mao l.length mcap, .slice ao len cap] w5 fun e w' => e = .returned (.bool true) ∧ ∃ k, w' = w5.drewN k) := by
        have h1 := same_calls mao ao l.length len mcap cap l l w5 (owned_rns hmo HZ.out.fits) (HZ.out.below HB5.out)
        rw [decide_eq_true rfl] at h1
        exact h1
      clear hmo hb5 HB4
      generalize l.length = n at *
      go_wp2_with fail
      refine HSame.out.mono ?_
      rintro e w6 ⟨rfl, kd, hw6⟩
      have HB6 : Hid (Below w.heap.size w w6) := by rw [hw6]; exact below_drewN HB5.out kd
      clear hw6 HSame HB5
      go_wp2
      go_ret
      exact ⟨rfl, HB6.out⟩
theorem laidOut : laidOutB Tryd.prog = true := by kernel_rfl

namespace cigarBack
open Go.ChangeShapes Go.WideShapes Go.ChangeAt Go.RowKit
open Go.ChangeMaps (open_string shut_string)

set_option maxRecDepth 100000 in
theorem lifted (os : Os) (started : os.Started) (H : Type) (enc : TypeId × Value → H) :
    ReturnsInHanded {} Tryd.checked os 6 .any (fun w args => (Rows.cigarBackSpec.pre enc Tryd.prog Tryd.f6 [] false w args ∧ laidMetH Tryd.prog theLaid w) ∧ sizedMet enc Tryd.prog Tryd.f6 (OpenSpec.ofChange Rows.cigarBackSpec) false w args)
      (Rows.cigarBackSpec.post enc Tryd.prog Tryd.f6 false true false false) := by
  refine returnsInHanded_of_change_and (C := Tryd.checked) (X := fun w _ => laidMetH Tryd.prog theLaid w) (fun _ _ _ hh h => h.of_heap hh) own started (by kernel_rfl) Tryd.func6
    (ChangeSpec.witness_shaped (enc := enc) (C := Tryd.checked) (os := os) (X := fun w _ => laidMetH Tryd.prog theLaid w) false (World.doorLaid Tryd.prog 400 os) #[.string ByteArray.empty, .slice none 0 0] 8 rfl (World.shaped_of_RefB (by kernel_rfl) (by kernel_rfl)) (by kernel_rfl) (by kernel_rfl) (by kernel_rfl) (door_met os _)) ?_
  intro W base args ds gs before hval0 hW _ _ hL _
  have hval : ∀ (j : Nat) t v, Tryd.f6.params[j]? = some t → args[j]? = some v → Value.okWide Tryd.prog W .any base t v := hval0
  have hW' := hW
  obtain ⟨p, q, hA0, hV, rfl, hfz, hnd⟩ := hW
  have hA : DataW.TrodAll enc Tryd.prog W 0 (fun _ => true) true Tryd.f6.params.toList args.toList ds p := hA0
  rw [Tryd.params6] at hA hval
  obtain ⟨v0, vs0, d0, ds0, p0, q0, hargs, rfl, rfl, h0, r0⟩ := trodAll_cons hA
  obtain ⟨v1, vs1, d1, ds1, p1, q1, rfl, rfl, rfl, h1, r1⟩ := trodAll_cons r0
  obtain ⟨rfl, rfl, rfl⟩ := trodAll_nil r1
  obtain rfl : args = #[v0, v1] := by cases args; simp_all
  obtain ⟨rfl, rfl⟩ := trodVars_none hV
  obtain ⟨a0, rfl, rfl, rfl, w0⟩ := open_string Tryd.underlying9 (hval 0 9 v0 rfl rfl) h0
  obtain ⟨a1, len1, cap1, rfl⟩ := okWide_slice Tryd.underlying23 (hval 1 23 v1 rfl rfl)
  have k1 := h1
  have lt1 : ∀ x ∈ p1, x.block < W.heap.size := by obtain ⟨m, hm⟩ := k1; exact DataW.trod_lt m _ _ _ hm
  obtain ⟨z1, w1⟩ : ∃ l, RnsAt W a1 len1 l ∧ len1 ≤ cap1 ∧ (a1 = none → len1 = 0 ∧ cap1 = 0) := by
    obtain ⟨fuel, hf⟩ := h1
    have hn := rns_none hf
    obtain ⟨ao, l, c, qs, hcs, h1, h2⟩ := open_rns hf
    simp [Value.cells] at hcs
    obtain ⟨rfl, rfl, rfl⟩ := hcs
    exact ⟨qs, h2, h1, hn⟩
  clear hA0 hval0
  refine (back_walk a0 a1 len1 cap1 z1 W (tab_of_laid hL) w0 w1).mono fun e W' ⟨he, bel⟩ => ?_
  subst he
  exact ⟨_, rfl, _, _, _, [], _, [], hW', trodAll_mk1 (shut_bool Tryd.underlying4 _), (trodAll_cons_mk (shut_string Tryd.underlying9 w0) (trodAll_cons_mk (Below.trod laidOut (by kernel_rfl) (of_decide_eq_true (by kernel_rfl)) k1 bel lt1) trodAll_mk0)), rfl, bel.frame _, fun h => by cases h⟩
end cigarBack

theorem cigarBack_holds : Rows.CigarBackSaid :=
  OpenClaim.holds_of_wide 6 Tryd.f6 rfl rfl rfl rfl rfl rfl rfl ⟨rfl, rfl, rfl, rfl, rfl⟩ rfl rfl rfl rfl rfl (by kernel_rfl) Tryd.func6 (by kernel_rfl)
    (of_decide_eq_true (by kernel_rfl)) (by unfold Func.isWrapper; first | (rw [if_pos (by decide +kernel)]; kernel_rfl) | (rw [if_neg (by decide +kernel)]; exact ⟨rfl, rfl⟩))
    (fun os started H enc _ => cigarBack.lifted os started H enc)

theorem cigarBackCard_holds : Rows.CigarBackCardSaid :=
  Claim7.holds_tied_plain_at .later [] [.data, .data, .data] true (true, "27ffa17bcc795c925a63e409735585b54e98368bad0007acabe989891e486ae0") false
    cigarBack_holds (fun _ h => by cases h) (by kernel_rfl) (fun _ h => by cases h) cigarBack_row_tie rfl ⟨rfl, rfl⟩ (by kernel_rfl) rfl
    (fun f fn hf hfn => by
      obtain rfl : f = 6 := Option.some.inj ((show Tryd.prog.funcNamed Rows.cigarBackRow.func = some 6 by kernel_rfl).symm.trans hf) |>.symm
      obtain rfl : fn = Tryd.f6 := (Option.some.inj (Tryd.func6.symm.trans hfn)).symm
      exact ⟨by kernel_rfl, fun j t ht => by
        rw [Tryd.params6] at ht
        have hm : t ∈ [9, 23] := by simpa using Array.mem_of_getElem? ht
        have hall : ([9, 23].all fun u => !Tryd.prog.wantsStandIn u) = true := by kernel_rfl
        exact (show Tryd.prog.wantsStandIn t = false by simpa using List.all_eq_true.1 hall t hm)⟩)
    (by kernel_rfl)
end Go.Proofs.YtkecpjgpgnfhmaaDoor
