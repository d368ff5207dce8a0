/-
  AlphaBack is proved for every input: numbers told as letters are read as these, in capitals or not; what is read of a text is told as that, in capitals; a refused text is taken up to the place told and no further. No condition.
-/
import Derived.Test.YtefngikfidlojaaRows
import Derived.Test.YtefngikfidlojaaBackPlain
import Derived.WalkKit
import Derived.ProofKit
import Derived.OpenShut
import Derived.ShutString
import Derived.ChangeOld
import Derived.Below
import Derived.Deep.DeepCutAuto
namespace Go.Proofs.Ytefngikfidlojaa
open Go.RowKit

theorem decodeIs_calls (l : ByteArray) (ao : Option Addr) (len cap : Nat) (zs : List Int) (w : World) (hl : l.size ≤ maxLen) (hz : IntsAt w ao len zs) (t : List UInt8) (er : Int) (he : decB l.data.toList zs = (t, er)) :
    Calls Try.prog 19 #[.string l, .slice ao len cap] w fun e w' => e = .returned (.tuple #[.string ⟨t.toArray⟩, .int .i64 er]) ∧ Below w.heap.size w w' := by
  refine (decode_calls l ao len cap zs w hl hz).mono ?_
  rintro e w' ⟨h1, h2⟩
  rw [he] at h1
  exact ⟨h1, h2⟩

theorem textSize_le (t : List UInt8) (h : t.length ≤ maxLen) : (⟨t.toArray⟩ : ByteArray).size ≤ maxLen := h
theorem smallIs_calls (t : List UInt8) (w : World) (h : t.length ≤ 65536) : Calls Try.prog 21 #[.string ⟨t.toArray⟩] w fun e w' => e = .returned (.string ⟨(smallB t).toArray⟩) ∧ Below w.heap.size w w' :=
  small_calls ⟨t.toArray⟩ w h

theorem capRefByte_calls (c : UInt8) (w : World) (hz : ¬ capRef (c.toNat : Int) = 0) :
    Calls Try.prog 22 #[.int .u8 (c.toNat : Int)] w fun e w' => e = .returned (.int .u8 ((capU c).toNat : Int)) ∧ w' = w := by
  have hb := UInt8.toNat_lt c
  have h := capitalRef_calls (c.toNat : Int) w (by omega) (by omega)
  rw [(capRef_letter c hz).1] at h
  exact h
/-- The text with its first k places in capitals. -/
def capsTo (l : List UInt8) (k : Nat) : List UInt8 := (List.range l.length).map fun j => if j < k then capU (l.getD j 0) else l.getD j 0
theorem capsTo_length (l : List UInt8) (k : Nat) : (capsTo l k).length = l.length := by simp [capsTo]
theorem capsTo_zero (l : List UInt8) : capsTo l 0 = l := by
  apply List.ext_getElem
  · simp [capsTo]
  · intro i h1 h2
    simp [capsTo, List.getD, h2]
theorem capsTo_all (l : List UInt8) (k : Nat) (h : l.length ≤ k) : capsTo l k = l.map capU := by
  apply List.ext_getElem
  · simp [capsTo]
  · intro i h1 h2
    have hi : i < l.length := by simpa using h2
    simp only [capsTo, List.getElem_map, List.getElem_range]
    rw [if_pos (by omega)]
    simp [List.getD, hi]
theorem capsTo_get (l : List UInt8) (k : Nat) (hk : k < l.length) : (capsTo l k).getD k 0 = l.getD k 0 := by
  have h1 : k < (capsTo l k).length := by rw [capsTo_length]; exact hk
  rw [List.getD, List.getElem?_eq_getElem h1, Option.getD_some]
  simp only [capsTo, List.getElem_map, List.getElem_range]
  rw [if_neg (by omega)]
theorem capsTo_step (l : List UInt8) (k : Nat) : capsTo l (k + 1) = (capsTo l k).set k (capU (l.getD k 0)) := by
  apply List.ext_getElem
  · simp [capsTo]
  · intro i h1 h2
    rw [List.getElem_set]
    simp only [capsTo, List.getElem_map, List.getElem_range]
    by_cases e : k = i
    · subst e; rw [if_pos (by omega), if_pos rfl]
    · rw [if_neg e]
      by_cases h : i < k
      · rw [if_pos (by omega), if_pos h]
      · rw [if_neg h, if_neg (by omega)]
theorem getD_mem (l : List UInt8) (k : Nat) (hk : k < l.length) : l.getD k 0 ∈ l := by
  have e : l.getD k 0 = l[k] := by simp [List.getD, List.getElem?_eq_getElem hk]
  rw [e]; exact List.getElem_mem hk

set_option maxRecDepth 100000 in
set_option maxHeartbeats 2000000 in
theorem back_walk (a0 : ByteArray) (a1 : Option Addr) (len1 cap1 : Nat) (z1 : List Int) (a2 : ByteArray) (w : World) (h0 : a0.size ≤ maxLen) (h1 : IntsAt w a1 len1 z1) (h2 : a2.size ≤ maxLen) :
    Calls Try.prog 7 #[.string a0, .slice a1 len1 cap1, .string a2] w fun e w' => e = .returned (.bool true) ∧ Below w.heap.size w w' := by
  have hm := h1.short
  unfold maxLen at hm
  have g2 := h2
  unfold maxLen at g2
  have H0 : Hid (a0.size ≤ maxLen) := h0
  have H2 : Hid (a2.size ≤ maxLen) := h2
  have hlz := h1.length
  subst hlz
  have H1 : Hid (IntsAt w a1 z1.length z1) := h1
  clear h0 h1 h2
  generalize hr : rightB a0.data.toList = r
  have HR : Hid (rightB a0.data.toList = r) := hr
  clear hr
  go_enter Try.func7, Try.ntmps7
  go_wp2_with fail
  refine (awake_calls _).mono ?_
  rintro e w1 ⟨rfl, hb1⟩
  have HB1 : Hid (Below w.heap.size w w1) := hb1
  clear hb1
  go_wp2_with fail
  refine (rightRef_calls a0 _ H0.out).mono ?_
  rintro e w2 ⟨rfl, hd⟩
  rw [HR.out]
  have HB2 : Hid (Below w.heap.size w w2) := below_drewN' HB1.out hd
  clear hd HB1
  cases r with
  | false =>
    go_wp2
    go_ret
    exact ⟨rfl, HB2.out⟩
  | true =>
    by_cases hbig : 2147483647 < z1.length
    · go_wp2
      go_ret
      exact ⟨rfl, HB2.out⟩
    · have hbd : decide ((2147483647 : Int) < (z1.length : Int)) = false := by simp; omega
      generalize he : decB a0.data.toList z1 = r
      obtain ⟨t, er⟩ := r
      have HE : Hid (decB a0.data.toList z1 = (t, er)) := he
      clear he
      go_wp2_with fail
      refine (decodeIs_calls a0 _ _ _ z1 _ H0.out (H1.out.below HB2.out) t er HE.out).mono ?_
      rintro e w3 ⟨rfl, hb3⟩
      have HB3 : Hid (Below w.heap.size w w3) := HB2.out.trans (hb3.mono HB2.out.size)
      clear hb3 HB2
      go_upto_if 49 with (fail)
      go_cut [7] (fun v wc => v = .bool true ∧ Below w.heap.size w wc)
      case first =>
        by_cases hz : er = 0
        · subst hz
          have HT : Hid (encB a0.data.toList (⟨t.toArray⟩ : ByteArray).data.toList = (z1, 0, 0)) := encB_dec HE.out
          have HS : Hid (encB a0.data.toList (⟨(smallB t).toArray⟩ : ByteArray).data.toList = (z1, 0, 0)) := encB_small HE.out
          have hal := alike_refl z1
          have htl : t.length = z1.length := by
            obtain ⟨_, _, rfl, _⟩ := decB_ok HE.out
            exact decText_length _ _
          have hzl : z1.length ≤ 65536 := (decB_ok HE.out).2.1
          have hlen : ((t.length : Int) != (z1.length : Int)) = false := by rw [htl]; simp
          have HL : Hid (t.length = z1.length) := htl
          clear htl
          go_wp2_with fail
          refine (encodeAt_calls a0 ⟨t.toArray⟩ _ H0.out (textSize_le t (by rw [HL.out]; unfold maxLen; omega)) z1 0 0 HT.out).mono ?_
          rintro e w4 ⟨ao, acap, rfl, ho4, hb4⟩
          have HO4 : Hid (w4.ownsRow w3.heap.size 3 1 (.slice ao z1.length acap) z1.length (z1.map (Value.int .i64))) := ho4
          have HB4 : Hid (Below w.heap.size w w4) := HB3.out.trans (hb4.mono HB3.out.size)
          clear ho4 hb4 HB3
          go_wp2_with fail
          refine (smallIs_calls t _ (by rw [HL.out]; omega)).mono ?_
          rintro e w5 ⟨rfl, hb5⟩
          have HO5 : Hid (w5.ownsRow w3.heap.size 3 1 (.slice ao z1.length acap) z1.length (z1.map (Value.int .i64))) := owned_below_all HO4.out hb5
          have HB5 : Hid (Below w.heap.size w w5) := HB4.out.trans (hb5.mono HB4.out.size)
          clear hb5 HO4 HB4
          go_wp2_with fail
          refine (encodeAt_calls a0 ⟨(smallB t).toArray⟩ _ H0.out (textSize_le _ (by rw [smallB_length, HL.out]; unfold maxLen; omega)) z1 0 0 HS.out).mono ?_
          rintro e w6 ⟨bo, bcap, rfl, ho6, hb6⟩
          have HO6 : Hid (w6.ownsRow w3.heap.size 3 1 (.slice ao z1.length acap) z1.length (z1.map (Value.int .i64))) := owned_below_all HO5.out hb6
          have HP6 : Hid (w6.ownsRow w5.heap.size 3 1 (.slice bo z1.length bcap) z1.length (z1.map (Value.int .i64))) := ho6
          have HB6 : Hid (Below w.heap.size w w6) := HB5.out.trans (hb6.mono HB5.out.size)
          clear hb6 ho6 HO5 HB5
          go_wp2_with fail
          refine (same_calls _ _ _ _ _ _ z1 z1 _ (intsAt_owned HO6.out) (H1.out.below HB6.out)).mono ?_
          rintro e w7 ⟨rfl, hd⟩
          have HP7 : Hid (w7.ownsRow w5.heap.size 3 1 (.slice bo z1.length bcap) z1.length (z1.map (Value.int .i64))) := owned_below_all HP6.out (below_drewN' (Below.refl _ _) hd)
          have HB7 : Hid (Below w.heap.size w w7) := below_drewN' HB6.out hd
          clear hd HO6 HP6 HB6
          rw [hal]
          go_wp2_with fail
          refine (same_calls _ _ _ _ _ _ z1 z1 _ (intsAt_owned HP7.out) (H1.out.below HB7.out)).mono ?_
          rintro e w8 ⟨rfl, hd⟩
          have HB8 : Hid (Below w.heap.size w w8) := below_drewN' HB7.out hd
          clear hd HP7 HB7
          rw [hal]
          go_wp2
          go_meet
          exact ⟨rfl, HB8.out⟩
        · have hzb : (er == 0) = false := by simpa using hz
          clear hz
          go_wp2
          go_meet
          exact ⟨rfl, HB3.out⟩
      case rest =>
        obtain ⟨rfl, hbc⟩ := hcut
        have HBC : Hid (Below w.heap.size w wc) := hbc
        clear hbc HB3
        generalize he : encB a0.data.toList a2.data.toList = r
        obtain ⟨m, k, er2⟩ := r
        have HF : Hid (encB a0.data.toList a2.data.toList = (m, k, er2)) := he
        clear he
        go_wp2_with fail
        refine (encodeAt_calls a0 a2 _ H0.out H2.out m k er2 HF.out).mono ?_
        rintro e w9 ⟨mo, mcap, rfl, ho9, hb9⟩
        have HO9 : Hid (w9.ownsRow wc.heap.size 3 1 (.slice mo m.length mcap) m.length (m.map (Value.int .i64))) := ho9
        have HB9 : Hid (Below w.heap.size w w9) := HBC.out.trans (hb9.mono HBC.out.size)
        clear ho9 hb9 HBC
        by_cases hz : er2 = 0
        · subst hz
          have HD : Hid (decB a0.data.toList m = (a2.data.toList.map capU, 0)) := decB_enc HF.out
          have HG : Hid (∀ c ∈ a2.data.toList, ¬ capRef (c.toNat : Int) = 0) := fun c hc => code_capRef HR.out c (encB_good HF.out c hc)
          go_wp2_with fail
          refine (decodeIs_calls a0 _ _ _ m _ H0.out (intsAt_owned HO9.out) _ 0 HD.out).mono ?_
          rintro e w10 ⟨rfl, hb10⟩
          have HB10 : Hid (Below w.heap.size w w10) := HB9.out.trans (hb10.mono HB9.out.size)
          have hsz : w.heap.size ≤ w10.heap.size := HB10.out.size
          clear hb10 HB9 HO9
          have hconv := run_bytes_of_string (P := Try.prog) w10 9 41 5 a2 Try.underlying9 Try.underlying41 Try.underlying5
          generalize hcap : grownCap w10 a2.size 0 5 = cap at hconv
          clear hcap
          generalize htx : (a2.data.toList.map capU).toArray = tx
          have HTX : Hid ((a2.data.toList.map capU).toArray = tx) := htx
          clear htx
          go_wp2
          have HB0 : Hid (Below w.heap.size w (w10.alloc (.cells (bytesRow a2 cap) 5 ((bytesRow a2 cap).size, (bytesRow a2 cap).size + 1))).drew) := (HB10.out.alloc hsz _).drew
          have HX0 : Hid (BytesAt (w10.alloc (.cells (bytesRow a2 cap) 5 ((bytesRow a2 cap).size, (bytesRow a2 cap).size + 1))).drew w10.heap.size a2.data.toList) := bytesAt_new w10 a2 cap _
          clear hconv HB10
          generalize w10.heap.size = g at *
          go_loopw [24] (fun i wr => ∃ k : Nat, k ≤ a2.size ∧ i = .int .i64 k ∧ BytesAt wr g (capsTo a2.data.toList k) ∧ Below w.heap.size w wr) (fun i _ => a2.size - (intOf i).toNat)
          case atStart => exact ⟨0, Nat.zero_le _, rfl, by rw [capsTo_zero]; exact HX0.out, HB0.out⟩
          case round =>
            obtain ⟨k, hk, rfl, hx, hb⟩ := hrel
            have HX : Hid (BytesAt wr g (capsTo a2.data.toList k)) := hx
            have HB : Hid (Below w.heap.size w wr) := hb
            clear hx hb HB0 HX0
            have HSL : Hid ((capsTo a2.data.toList k).length = a2.size) := by
              show (capsTo a2.data.toList k).length = a2.size
              rw [capsTo_length]; simp
            by_cases hlt : k < a2.size
            · have hc := HX.out.cell k (by rw [HSL.out]; exact hlt)
              have hfz := HX.out.frozen k (by rw [HSL.out]; exact hlt)
              rw [capsTo_get a2.data.toList k (by simpa using hlt)] at hc
              generalize hcc : a2.data.toList.getD k 0 = c at hc
              have HC : Hid (a2.data.toList.getD k 0 = c) := hcc
              have HNZ : Hid (¬ capRef (c.toNat : Int) = 0) := HG.out c (by rw [← hcc]; exact getD_mem _ k (by simpa using hlt))
              clear hcc
              go_wp2_with (go_at_call 22; refine (capRefByte_calls c _ HNZ.out).mono ?_; rintro e w' ⟨rfl, hw⟩; rw [hw]; clear hw)
              go_roundw
              case rel =>
                refine ⟨k + 1, by omega, by go_num, ?_, HB.out.setCell (p := ⟨g, k, none⟩) hsz _⟩
                rw [capsTo_step, HC.out]
                exact HX.out.put k _
              case measure => simp [intOf]; omega
            · have hconv := HX.out.text a2.size cap HSL.out
              rw [capsTo_all _ _ (by simp; omega), HTX.out] at hconv
              go_wp2
              go_ret
              exact ⟨rfl, HB.out⟩
        · have hzb : (er2 == 0) = false := by simpa using hz
          rcases encB_fault HF.out HR.out hz with ⟨rfl, hlong, rfl⟩ | ⟨rfl, hlt, ⟨ms, hms⟩, hfl⟩
          · have hl2 : decide ((65536 : Int) < (a2.size : Int)) = true := by
              have : a2.data.toList.length = a2.size := by simp
              simp; omega
            clear hz hlong
            go_wp2
            go_ret
            exact ⟨rfl, HB9.out⟩
          · have hks : k < a2.size := by simpa using hlt
            have HM : Hid (encB a0.data.toList (a2.extract 0 k).data.toList = (ms, 0, 0)) := by rw [extract_list]; exact hms
            have HL : Hid (encB a0.data.toList (a2.extract 0 (k + 1)).data.toList = ([], k, 11)) := by rw [extract_list]; exact hfl
            clear hz hlt hms hfl
            go_wp2_with fail
            refine (encodeAt_calls a0 (a2.extract 0 k) _ H0.out (by unfold maxLen; simp; omega) ms 0 0 HM.out).mono ?_
            rintro e w10 ⟨co, ccap, rfl, _, hb10⟩
            have HB10 : Hid (Below w.heap.size w w10) := HB9.out.trans (hb10.mono HB9.out.size)
            clear hb10 HB9 HO9
            go_wp2_with fail
            refine (encodeAt_calls a0 (a2.extract 0 (k + 1)) _ H0.out (by unfold maxLen; simp; omega) [] k 11 HL.out).mono ?_
            rintro e w11 ⟨fo, fcap, rfl, _, hb11⟩
            have HB11 : Hid (Below w.heap.size w w11) := HB10.out.trans (hb11.mono HB10.out.size)
            clear hb11 HB10
            go_wp2
            go_ret
            exact ⟨rfl, HB11.out⟩

namespace alphaBack
open Go.ChangeShapes Go.WideShapes Go.ChangeAt Go.RowKit
open Go.ChangeMaps (open_string shut_string)
theorem own : ownKnob Try.prog.godebug = none := by kernel_rfl
theorem laidOut : laidOutB Try.prog = true := by kernel_rfl

set_option maxRecDepth 100000 in
theorem lifted (os : Os) (started : os.Started) (H : Type) (enc : TypeId × Value → H) :
    ReturnsInHanded {} Try.checked os 7 .any (Rows.alphaBackSpec.pre6 enc Try.prog Try.f7 Rows.alphaBackRow.domain false) (Rows.alphaBackSpec.post enc Try.prog Try.f7 false true false false) := by
  refine returnsInHanded_of_change (C := Try.checked) own started (by kernel_rfl) Try.func7
    (ChangeSpec.witness6 (enc := enc) (C := Try.checked) false ⟨#[], #[.string ByteArray.empty, .slice none 0 0, .string ByteArray.empty], []⟩ 8 (by kernel_rfl) (by kernel_rfl) (by kernel_rfl) (by kernel_rfl)) ?_
  intro W base args ds gs before hval0 hW _ _
  have hval : ∀ (j : Nat) t v, Try.f7.params[j]? = some t → args[j]? = some v → Value.okWide Try.prog W .any base t v := hval0
  have hW' := hW
  obtain ⟨p, q, hA0, hV, rfl, hfz, hnd⟩ := hW
  have hA : DataW.TrodAll enc Try.prog W 0 (fun _ => true) true Try.f7.params.toList args.toList ds p := hA0
  rw [Try.params7] at hA hval
  obtain ⟨v0, vs0, d0, ds0, p0, q0, hargs, rfl, rfl, h0, r0⟩ := trodAll_cons hA
  obtain ⟨v1, vs1, d1, ds1, p1, q1, rfl, rfl, rfl, h1, r1⟩ := trodAll_cons r0
  obtain ⟨v2, vs2, d2, ds2, p2, q2, rfl, rfl, rfl, h2, r2⟩ := trodAll_cons r1
  obtain ⟨rfl, rfl, rfl⟩ := trodAll_nil r2
  obtain rfl : args = #[v0, v1, v2] := by cases args; simp_all
  obtain ⟨rfl, rfl⟩ := trodVars_none hV
  obtain ⟨a0, rfl, rfl, rfl, w0⟩ := open_string Try.underlying9 (hval 0 9 v0 rfl rfl) h0
  obtain ⟨a1, len1, cap1, rfl⟩ := okWide_slice Try.underlying32 (hval 1 32 v1 rfl rfl)
  have k1 := h1
  have lt1 : ∀ x ∈ p1, x.block < W.heap.size := by obtain ⟨m, hm⟩ := k1; exact DataW.trod_lt m _ _ _ hm
  obtain ⟨z1, w1⟩ : ∃ zs, IntsAt W a1 len1 zs := by
    obtain ⟨fuel, hf⟩ := h1
    rcases open_ints Try.underlying32 Try.underlying3 (by kernel_rfl) hf with ⟨hcs, _⟩ | ⟨x, l, c, zs, hcs, _, hl, hm, hz, _, hcell, _⟩
    · simp [Value.cells] at hcs
      obtain ⟨rfl, rfl, rfl⟩ := hcs
      exact ⟨[], intsAt_nil _⟩
    · simp [Value.cells] at hcs
      obtain ⟨rfl, rfl, rfl⟩ := hcs
      exact ⟨_, intsAt_open hl hm (by simpa using hz) hcell⟩
  obtain ⟨a2, rfl, rfl, rfl, w2⟩ := open_string Try.underlying9 (hval 2 9 v2 rfl rfl) h2
  clear hA0 hval0
  refine (back_walk a0 a1 len1 cap1 z1 a2 W w0 w1 w2).mono fun e W' ⟨he, bel⟩ => ?_
  subst he
  exact ⟨_, rfl, _, _, _, [], _, [], hW', trodAll_mk1 (shut_bool Try.underlying4 _), (trodAll_cons_mk (shut_string Try.underlying9 w0) (trodAll_cons_mk (Below.trod laidOut (by kernel_rfl) (of_decide_eq_true (by kernel_rfl)) k1 bel lt1) (trodAll_cons_mk (shut_string Try.underlying9 w2) trodAll_mk0))), rfl, bel.frame _, fun h => by cases h⟩
end alphaBack

theorem alphaBack_holds : Rows.AlphaBackSaid :=
  OpenClaim.holds_of_wide 7 Try.f7 rfl rfl rfl rfl rfl rfl rfl ⟨rfl, rfl, rfl, rfl, rfl⟩ rfl rfl rfl rfl rfl (by kernel_rfl) Try.func7 (by kernel_rfl)
    (of_decide_eq_true (by kernel_rfl)) (by unfold Func.isWrapper; first | (rw [if_pos (by decide +kernel)]; kernel_rfl) | (rw [if_neg (by decide +kernel)]; exact ⟨rfl, rfl⟩))
    (fun os started H enc _ => alphaBack.lifted os started H enc)
end Go.Proofs.Ytefngikfidlojaa
