/-
  The walks of helixref01.Encode and helixref01.Decode: the document's answers, as alpha gives them.
-/
import Derived.Test.YtefngikfidlojaaAwake
namespace Go.Proofs.Ytefngikfidlojaa
open Go.RowKit

theorem codeRefAt_calls (l s : ByteArray) (k : Nat) (w : World) (hl : l.size ≤ maxLen) (hr : rightB l.data.toList = true) (hk : k < s.size) :
    Calls Try.prog 13 #[.string l, .int .u8 (s[k].toNat : Int)] w fun e w' => e = .returned (.int .i64 (codeOf l.data.toList (s[k].toNat : Int))) ∧ ∃ n, w' = w.drewN n := by
  have h := codeRef_calls l (s[k].toNat : Int) w hl (by omega) (by have := UInt8.toNat_lt s[k]; omega)
  unfold codeB at h
  rw [if_pos hr] at h
  exact h

/-- The numbers of the first k bytes. -/
def codesTo (l s : ByteArray) (k : Nat) : List Int := (s.data.toList.take k).map fun c => codeOf l.data.toList (c.toNat : Int)
theorem codesTo_length (l s : ByteArray) (k : Nat) (h : k ≤ s.size) : (codesTo l s k).length = k := by
  simp [codesTo]; omega
theorem codesTo_succ (l s : ByteArray) (k : Nat) (h : k < s.size) : codesTo l s (k + 1) = codesTo l s k ++ [codeOf l.data.toList (s[k].toNat : Int)] := by
  unfold codesTo; rw [take_snoc s k h]; simp
theorem codesTo_all (l s : ByteArray) (k : Nat) (h : s.size ≤ k) : codesTo l s k = s.data.toList.map fun c => codeOf l.data.toList (c.toNat : Int) := by
  unfold codesTo; rw [List.take_of_length_le (by simpa using h)]

/-- The head of round k of helixref01.Encode's loop. -/
structure RefInv (w : World) (l s : ByteArray) (v : Value) (k : Nat) (wr : World) : Prop where
  all : ∀ j x, j < k → s.data.toList[j]? = some x → 0 ≤ codeOf l.data.toList (x.toNat : Int)
  own : wr.ownsRow w.heap.size 3 1 v k ((codesTo l s k).map (Value.int .i64))
  below : Below w.heap.size w wr
theorem RefInv.drewn {w wr w1 : World} {l s : ByteArray} {v : Value} {k : Nat} (h : RefInv w l s v k wr) (hd : ∃ n, w1 = wr.drewN n) : RefInv w l s v k w1 := by
  obtain ⟨n, rfl⟩ := hd
  exact ⟨h.all, h.own.kept (row := none) ⟨rfl, rfl, rfl, Nat.le_refl _, fun _ _ _ => rfl⟩ (by cases hv : v.ownBlock <;> simp), below_drewN h.below n⟩
theorem RefInv.step {w wr w1 : World} {l s : ByteArray} {v v' : Value} {k : Nat} {o : Obj} (h : RefInv w l s v k wr) (hk : k < s.size) (hp : 0 ≤ codeOf l.data.toList (s[k].toNat : Int))
    (hown : w1.ownsRow w.heap.size 3 1 v' (k + 1) ((codesTo l s k).map (Value.int .i64) ++ [.int .i64 (codeOf l.data.toList (s[k].toNat : Int))])) (hg : (wr.alloc o).grownBy w1 v.ownBlock) : RefInv w l s v' (k + 1) w1 := by
  refine ⟨?_, ?_, ?_⟩
  · intro j x hj hx
    by_cases e : j = k
    · subst e
      rw [get?_at s j hk] at hx
      cases hx
      exact hp
    · exact h.all j x (by omega) hx
  · rw [codesTo_succ l s k hk, List.map_append]
    exact hown
  · exact (h.below.alloc h.below.size o).grown hg (by have := h.below.size; simp; omega) (fun i hi => (h.own.lt i hi).1)
theorem encB_bad' {l s : ByteArray} {k : Nat} (hlong : s.size ≤ 65536) (hr : rightB l.data.toList = true) (h : ∀ j x, j < k → s.data.toList[j]? = some x → 0 ≤ codeOf l.data.toList (x.toNat : Int)) (hk : k < s.size) (hneg : codeOf l.data.toList (s[k].toNat : Int) < 0) :
    encB l.data.toList s.data.toList = ([], k, 11) := by
  have hsl : s.data.toList.length = s.size := by simp
  have hb : badAt l.data.toList s.data.toList = k := takeWhile_stop _ _ k s[k] (fun j x hj hx => by simpa using h j x hj hx) (get?_at s k hk) (by simpa using hneg)
  unfold encB
  rw [hr, if_neg (by decide), if_neg (by omega), hb, if_pos (by omega)]

set_option maxHeartbeats 1000000 in
theorem encodeRef_calls (l s : ByteArray) (w : World) (hl : l.size ≤ maxLen) (hs : s.size ≤ maxLen) :
    Calls Try.prog 17 #[.string l, .string s] w fun e w' => EncPost l.data.toList s.data.toList w e w' := by
  unfold maxLen at hs
  have hsl : s.data.toList.length = s.size := by simp
  obtain ⟨i0, hi, hz0, hz1, hz2⟩ := info_parts info3
  generalize hr : rightB l.data.toList = r
  have HR : Hid (rightB l.data.toList = r) := hr
  clear hr
  cases r with
  | false =>
    have HE : Hid (encB l.data.toList s.data.toList = ([], 0, 10)) := by unfold encB; rw [HR.out, if_pos rfl]; exact rfl
    go_enter Try.func17, Try.ntmps17
    go_wp2_with fail
    refine (rightRef_calls l _ hl).mono ?_
    rintro e w1 ⟨rfl, hd⟩
    rw [HR.out]
    have HB : Hid (Below w.heap.size w w1) := below_drewN' (Below.refl _ _) hd
    clear hd
    go_wp2
    go_ret3
    unfold EncPost
    rw [HE.out]
    exact ⟨_, rfl, World.ownsRow_nil _ _ _ _, HB.out⟩
  | true =>
    by_cases hlong : 65536 < s.size
    · have HE : Hid (encB l.data.toList s.data.toList = ([], 0, 2)) := by unfold encB; rw [HR.out, if_neg (by decide), if_pos (by omega)]; exact rfl
      go_enter Try.func17, Try.ntmps17
      go_wp2_with fail
      refine (rightRef_calls l _ hl).mono ?_
      rintro e w1 ⟨rfl, hd⟩
      rw [HR.out]
      have HB : Hid (Below w.heap.size w w1) := below_drewN' (Below.refl _ _) hd
      clear hd
      go_wp2
      go_ret3
      unfold EncPost
      rw [HE.out]
      exact ⟨_, rfl, World.ownsRow_nil _ _ _ _, HB.out⟩
    · have hlong' : s.size ≤ 65536 := by omega
      clear hlong
      have hdl : decide ((65536 : Int) < (s.size : Int)) = false := by simp; omega
      go_enter Try.func17, Try.ntmps17
      go_wp2_with fail
      refine (rightRef_calls l _ hl).mono ?_
      rintro e w1 ⟨rfl, hd⟩
      rw [HR.out]
      have HB : Hid (Below w.heap.size w w1) := below_drewN' (Below.refl _ _) hd
      clear hd
      go_wp2
      go_loopw [8, 9, 10] (fun v i _ wr => ∃ k : Nat, k ≤ s.size ∧ i = .int .i64 k ∧ RefInv w l s v k wr) (fun _ i _ _ => s.size - (intOf i).toNat)
      case atStart => exact ⟨0, Nat.zero_le _, rfl, fun j x hj => by omega, by simpa [codesTo] using World.ownsRow_nil _ _ _ _, HB.out⟩
      case round =>
        obtain ⟨k, hk, rfl, hinv⟩ := hrel
        obtain ⟨vo, vcap, rfl⟩ := owned_shape hinv.own
        have HI : Hid (RefInv w l s (.slice vo k vcap) k wr) := hinv
        clear hinv HB
        by_cases hlt : k < s.size
        · go_wp2_with fail
          refine (codeRefAt_calls l s k _ hl HR.out hlt).mono ?_
          rintro e w2 ⟨rfl, hd⟩
          have HI2 : Hid (RefInv w l s (.slice vo k vcap) k w2) := HI.out.drewn hd
          have hsz : w.heap.size ≤ w2.heap.size := HI2.out.below.size
          clear hd HI
          by_cases hneg : codeOf l.data.toList (s[k].toNat : Int) < 0
          · have HE : Hid (encB l.data.toList s.data.toList = ([], k, 11)) := encB_bad' (by omega) HR.out HI2.out.all hlt hneg
            go_wp2
            go_ret3
            unfold EncPost
            rw [HE.out]
            exact ⟨_, rfl, World.ownsRow_nil _ _ _ _, HI2.out.below⟩
          · go_wp2_with (at_builtin; refine wpList_append_own _ rfl _ _ 32 rfl w.heap.size 3 i0 (.int .i64 0) 1 8 Try.underlying32 hi hz0 hz1 hz2 rfl (by decide) _ _ _ rfl (HI2.out.own.alloc _) ⟨_, 0, none⟩ 1 1 [.int .i64 (codeOf l.data.toList (s[k].toNat : Int))] rfl rfl ?c1 ?c2 ?c3 ?c4 ?c5 ?_)
            case c1 =>
              intro i u hu
              match i, hu with
              | 0, hu => simp at hu; subst hu; simp [Addr.add]
            case c2 => intro u hu; simp at hu; subst hu; rfl
            case c3 => unfold maxLen; omega
            case c4 => omega
            case c5 => simp; omega
            intro v' w3 hown' hgrow _
            have HR3 : Hid (RefInv w l s v' (k + 1) w3) := HI2.out.step hlt (by omega) hown' hgrow
            clear hown' hgrow HI2
            go_wp2
            go_roundw
            case rel => exact ⟨k + 1, by omega, by go_num, HR3.out⟩
            case measure => simp [intOf]; omega
        · have HE : Hid (encB l.data.toList s.data.toList = (s.data.toList.map fun c => codeOf l.data.toList (c.toNat : Int), 0, 0)) := encB_all (by omega) HR.out (by rw [show s.data.toList.length = k from by omega]; exact HI.out.all)
          go_wp2
          go_ret3
          unfold EncPost
          rw [HE.out, ← codesTo_all l s k (by omega), codesTo_length l s k hk]
          exact ⟨_, rfl, HI.out.own, HI.out.below⟩

set_option maxHeartbeats 1000000 in
theorem decodeRef_calls (l : ByteArray) (ao : Option Addr) (len cap : Nat) (zs : List Int) (w : World) (hl : l.size ≤ maxLen) (hz : IntsAt w ao len zs) :
    Calls Try.prog 20 #[.string l, .slice ao len cap] w fun e w' => DecPost l.data.toList zs w e w' := by
  have hm := hz.short
  unfold maxLen at hm
  have hzl := hz.length
  have hll : l.data.toList.length = l.size := by simp
  obtain ⟨i0, hi, hz0, hz1, hz2⟩ := info_parts info5
  generalize hr : rightB l.data.toList = r
  have HR : Hid (rightB l.data.toList = r) := hr
  clear hr
  have HZ : Hid (IntsAt w ao len zs) := hz
  have HZL : Hid (zs.length = len) := hzl
  clear hz hzl
  cases r with
  | false =>
    have HE : Hid (decB l.data.toList zs = ([], 10)) := by unfold decB; rw [HR.out, if_pos rfl]; exact rfl
    go_enter Try.func20, Try.ntmps20
    go_wp2_with fail
    refine (rightRef_calls l _ hl).mono ?_
    rintro e w1 ⟨rfl, hd⟩
    rw [HR.out]
    have HB : Hid (Below w.heap.size w w1) := below_drewN' (Below.refl _ _) hd
    clear hd
    go_wp2
    go_ret2
    unfold DecPost
    rw [HE.out]
    exact ⟨rfl, HB.out⟩
  | true =>
    by_cases hlong : 65536 < len
    · have HE : Hid (decB l.data.toList zs = ([], 2)) := by unfold decB; rw [HR.out, if_neg (by decide), if_pos (by rw [HZL.out]; omega)]; exact rfl
      go_enter Try.func20, Try.ntmps20
      go_wp2_with fail
      refine (rightRef_calls l _ hl).mono ?_
      rintro e w1 ⟨rfl, hd⟩
      rw [HR.out]
      have HB : Hid (Below w.heap.size w w1) := below_drewN' (Below.refl _ _) hd
      clear hd
      go_wp2
      go_ret2
      unfold DecPost
      rw [HE.out]
      exact ⟨rfl, HB.out⟩
    · have hlong' : len ≤ 65536 := by omega
      clear hlong
      have hdl : decide ((65536 : Int) < (len : Int)) = false := by simp; omega
      go_enter Try.func20, Try.ntmps20
      go_wp2_with fail
      refine (rightRef_calls l _ hl).mono ?_
      rintro e w1 ⟨rfl, hd⟩
      rw [HR.out]
      have HB : Hid (Below w.heap.size w w1) := below_drewN' (Below.refl _ _) hd
      have hsz : w.heap.size ≤ w1.heap.size := HB.out.size
      clear hd
      go_wp2_with (at_make; refine wpList_make_full _ rfl _ _ 41 rfl w.heap.size 5 i0 (.int .u8 0) 1 Try.underlying41 hi hz0 hz1 .i64 .i64 _ _ len rfl rfl rfl rfl (by rw [hz2]; omega) (by unfold maxLen; omega) hsz ?_; intro w2 hown hgrow)
      have HO : Hid (w2.ownsRow w.heap.size 5 1 (.slice (some ⟨w1.heap.size, 0, none⟩) len len) len (madeCells (Value.int .u8 0).cells (len * 1)).toList) := hown
      have HB2 : Hid (Below w.heap.size w w2) := HB.out.grown hgrow hsz (by intro k hk; cases hk)
      clear hown hgrow HB
      generalize w1.heap.size = g at *
      go_loopw [8] (fun i wr => ∃ k : Nat, k ≤ len ∧ i = .int .i64 k ∧ (∀ j, j < k → 0 ≤ zs.getD j 0 ∧ zs.getD j 0 < (l.data.toList.length : Int)) ∧ FillInv w 5 (fun j => .int .u8 ((letterAt l.data.toList zs j).toNat : Int)) (.int .u8 0) g len k wr) (fun i _ => len - (intOf i).toNat)
      case atStart => exact ⟨0, Nat.zero_le _, rfl, fun j hj => by omega, FillInv.start rfl HO.out HB2.out⟩
      case round =>
        obtain ⟨k, hk, rfl, hall, hinv⟩ := hrel
        have HA : Hid (∀ j, j < k → 0 ≤ zs.getD j 0 ∧ zs.getD j 0 < (l.data.toList.length : Int)) := hall
        have HI : Hid (FillInv w 5 (fun j => .int .u8 ((letterAt l.data.toList zs j).toNat : Int)) (.int .u8 0) g len k wr) := hinv
        clear hall hinv HO HB2
        by_cases hlt : k < len
        · obtain ⟨b, off, rfl, hcs⟩ := (HZ.out.below HI.out.below).cells (by omega)
          have hc1 := hcs k hlt
          clear hcs
          have hc := HI.out.cell hlt
          have hfz := HI.out.frozen
          generalize hz : zs.getD k 0 = z at hc1
          have HK : Hid (zs.getD k 0 = z) := hz
          clear hz
          by_cases hbad : z < 0 ∨ (l.size : Int) ≤ z
          · have HE : Hid (decB l.data.toList zs = ([], 11)) := decB_bad HR.out (by rw [HZL.out]; omega) k (by rw [HZL.out]; omega) (by rw [HK.out, hll]; exact hbad)
            by_cases hneg : z < 0
            · clear hbad
              go_wp2
              go_ret2
              unfold DecPost
              rw [HE.out]
              exact ⟨rfl, HI.out.below⟩
            · have hge : (l.size : Int) ≤ z := by omega
              clear hbad
              go_wp2
              go_ret2
              unfold DecPost
              rw [HE.out]
              exact ⟨rfl, HI.out.below⟩
          · obtain ⟨n, rfl⟩ := Int.eq_ofNat_of_zero_le (show 0 ≤ z by omega)
            have hn : n < l.size := by omega
            clear hbad
            go_wp2
            go_roundw
            case rel =>
              refine ⟨k + 1, by omega, by go_num, ?_, HI.out.step (by rw [letterAt_byte l zs k n hn HK.out])⟩
              intro j hj
              by_cases e : j = k
              · subst e; rw [HK.out, hll]; omega
              · exact HA.out j (by omega)
            case measure => simp [intOf]; omega
        · have HE : Hid (decB l.data.toList zs = (decText l.data.toList zs, 0)) := decB_all HR.out (by rw [HZL.out]; omega) (fun j hj => HA.out j (by rw [HZL.out] at hj; omega))
          have hconv := HI.out.text (by omega) (decText l.data.toList zs) (by rw [decText_length, HZL.out]) (fun j hj => by rw [letterAt_get])
          go_wp2
          go_ret2
          unfold DecPost
          rw [HE.out]
          exact ⟨rfl, HI.out.below⟩
end Go.Proofs.Ytefngikfidlojaa
