/-
  The walk of alpha.Encode: a text's numbers in a list of the call's own.
-/
import Derived.Test.YtefngikfidlojaaCodes
import Derived.Laws.OwnMore
namespace Go.Proofs.Ytefngikfidlojaa
open Go.RowKit

theorem info3 : (Try.prog.info? 3).map (fun i => (i.zero, i.size, i.bytes)) = some (some (.int .i64 0), 1, 8) := by kernel_rfl
theorem info5 : (Try.prog.info? 5).map (fun i => (i.zero, i.size, i.bytes)) = some (some (.int .u8 0), 1, 1) := by kernel_rfl

theorem below_drewN' {B : Nat} {a w w' : World} (h : Below B a w) (hd : ∃ n, w' = w.drewN n) : Below B a w' := by
  obtain ⟨n, rfl⟩ := hd
  exact below_drewN h n

/-- What alpha.Encode and helixref01.Encode leave. -/
def EncPost (l s : List UInt8) (w : World) (e : Ending) (w' : World) : Prop :=
  ∃ v, e = .returned (.tuple #[v, .int .i64 ((encB l s).2.1 : Nat), .int .i64 (encB l s).2.2]) ∧
    w'.ownsRow w.heap.size 3 1 v (encB l s).1.length ((encB l s).1.map (Value.int .i64)) ∧ Below w.heap.size w w'

theorem numberAt_calls (l s : ByteArray) (k : Nat) (w : World) (hk : k < s.size) :
    Calls Try.prog 26 #[.string l, .int .u8 (s[k].toNat : Int)] w fun e w' => e = .returned (.int .i64 (codeOf l.data.toList (s[k].toNat : Int))) ∧ w' = w :=
  number_calls l _ w (by omega) (by have := UInt8.toNat_lt s[k]; omega)

/-- What holds at the head of round k of alpha.Encode's loop. -/
structure EncInv (w : World) (l s : ByteArray) (g k : Nat) (wr : World) : Prop where
  all : ∀ j x, j < k → s.data.toList[j]? = some x → 0 ≤ codeOf l.data.toList (x.toNat : Int)
  own : wr.ownsRow w.heap.size 3 1 (.slice (some ⟨g, 0, none⟩) s.size s.size) s.size (filled (fun j => .int .i64 (codeOf l.data.toList ((s.data.toList.getD j 0).toNat : Int))) (.int .i64 0) s.size k)
  below : Below w.heap.size w wr

theorem EncInv.start {w w2 : World} {l s : ByteArray} {g : Nat} (h : w2.ownsRow w.heap.size 3 1 (.slice (some ⟨g, 0, none⟩) s.size s.size) s.size (madeCells (Value.int .i64 0).cells (s.size * 1)).toList) (hb : Below w.heap.size w w2) : EncInv w l s g 0 w2 :=
  ⟨fun j x hj => by omega, by
    rw [filled_zero]
    have e : (madeCells (Value.int .i64 0).cells (s.size * 1)).toList = List.replicate s.size (Value.int .i64 0) := by
      rw [Nat.mul_one]; exact toList_madeCells_one _ _
    rwa [e] at h, hb⟩
theorem EncInv.cell {w wr : World} {l s : ByteArray} {g k : Nat} (h : EncInv w l s g k wr) (hk : k < s.size) : wr.cell? ⟨g, k, none⟩ = some (.int .i64 0) := by
  rw [h.own.cellAt k (by omega)]
  simp [filled, hk]
theorem EncInv.frozen {w wr : World} {l s : ByteArray} {g k : Nat} (h : EncInv w l s g k wr) : wr.frozen? ⟨g, k, none⟩ = false := h.own.frozenAt k
theorem EncInv.base {w wr : World} {l s : ByteArray} {g k : Nat} (h : EncInv w l s g k wr) : w.heap.size ≤ g := (h.own.lt g rfl).1
theorem EncInv.step {w wr : World} {l s : ByteArray} {g k : Nat} (h : EncInv w l s g k wr) (hk : k < s.size) (hp : 0 ≤ codeOf l.data.toList (s[k].toNat : Int)) :
    EncInv w l s g (k + 1) (wr.setCell ⟨g, k, none⟩ (.int .i64 (codeOf l.data.toList (s[k].toNat : Int)))) := by
  refine ⟨?_, ?_, h.below.setCell (p := ⟨g, k, none⟩) h.base _⟩
  · intro j x hj hx
    by_cases e : j = k
    · subst e
      rw [get?_at s j hk] at hx
      cases hx
      exact hp
    · exact h.all j x (by omega) hx
  · have := (h.own.stored k (.int .i64 (codeOf l.data.toList (s[k].toNat : Int)))).1
    rwa [filled_set _ _ _ _ _ (by rw [getD_at s k hk])] at this
theorem EncInv.ends {w wr : World} {l s : ByteArray} {g k : Nat} (h : EncInv w l s g k wr) (hk : s.size ≤ k) :
    wr.ownsRow w.heap.size 3 1 (.slice (some ⟨g, 0, none⟩) s.size s.size) (s.data.toList.map fun c => codeOf l.data.toList (c.toNat : Int)).length ((s.data.toList.map fun c => codeOf l.data.toList (c.toNat : Int)).map (Value.int .i64)) := by
  have e1 : (s.data.toList.map fun c => codeOf l.data.toList (c.toNat : Int)).length = s.size := by simp
  have e2 : filled (fun j => Value.int .i64 (codeOf l.data.toList ((s.data.toList.getD j 0).toNat : Int))) (.int .i64 0) s.size k = (s.data.toList.map fun c => codeOf l.data.toList (c.toNat : Int)).map (Value.int .i64) := by
    rw [filled_all _ _ _ _ hk]
    apply List.ext_getElem
    · simp
    · intro i h1 h2
      have hi : i < s.data.toList.length := by simpa using h2
      have hi' : i < s.data.size := by simpa using hi
      simp [List.getD, Array.getElem?_eq_getElem hi']
  rw [e1, ← e2]
  exact h.own
theorem encB_bad {w wr : World} {l s : ByteArray} {g k : Nat} (hlong : s.size ≤ 65536) (hr : rightB l.data.toList = true) (h : EncInv w l s g k wr) (hk : k < s.size) (hneg : codeOf l.data.toList (s[k].toNat : Int) < 0) :
    encB l.data.toList s.data.toList = ([], k, 11) := by
  have hsl : s.data.toList.length = s.size := by simp
  have hb : badAt l.data.toList s.data.toList = k := takeWhile_stop _ _ k s[k] (fun j x hj hx => by simpa using h.all j x hj hx) (get?_at s k hk) (by simpa using hneg)
  unfold encB
  rw [hr, if_neg (by decide), if_neg (by omega), hb, if_pos (by omega)]
theorem encB_all {l s : List UInt8} (hlong : s.length ≤ 65536) (hr : rightB l = true) (h : ∀ j x, j < s.length → s[j]? = some x → 0 ≤ codeOf l (x.toNat : Int)) :
    encB l s = (s.map fun c => codeOf l (c.toNat : Int), 0, 0) := by
  have hb : badAt l s = s.length := takeWhile_full _ _ (fun j x hj hx => by simpa using h j x hj hx)
  unfold encB
  rw [hr, if_neg (by decide), if_neg (by omega), hb, if_neg (by omega)]

set_option maxHeartbeats 1000000 in
theorem encode_calls (l s : ByteArray) (w : World) (hl : l.size ≤ maxLen) (hs : s.size ≤ maxLen) :
    Calls Try.prog 16 #[.string l, .string s] w fun e w' => EncPost l.data.toList s.data.toList w e w' := by
  unfold maxLen at hs
  have hsl : s.data.toList.length = s.size := by simp
  obtain ⟨i0, hi, hz0, hz1, hz2⟩ := info_parts info3
  generalize hr : rightB l.data.toList = r
  have HR : Hid (rightB l.data.toList = r) := hr
  clear hr
  cases r with
  | false =>
    have HE : Hid (encB l.data.toList s.data.toList = ([], 0, 10)) := by unfold encB; rw [HR.out, if_pos rfl]; exact rfl
    go_enter Try.func16, Try.ntmps16
    go_wp2_with (first
      | (go_at_call 10; refine (right_calls l _ hl).mono ?_; rintro e w' ⟨rfl, hd⟩; rw [HR.out]; have HD : Hid (∃ n, w' = w.drewN n) := hd; clear hd))
    go_ret3
    unfold EncPost
    rw [HE.out]
    exact ⟨_, rfl, World.ownsRow_nil _ _ _ _, below_drewN' (Below.refl _ _) (Hid.out (by assumption))⟩
  | true =>
    by_cases hlong : 65536 < s.size
    · have HE : Hid (encB l.data.toList s.data.toList = ([], 0, 2)) := by unfold encB; rw [HR.out, if_neg (by decide), if_pos (by omega)]; exact rfl
      go_enter Try.func16, Try.ntmps16
      go_wp2_with (first
        | (go_at_call 10; refine (right_calls l _ hl).mono ?_; rintro e w' ⟨rfl, hd⟩; rw [HR.out]; have HD : Hid (∃ n, w' = w.drewN n) := hd; clear hd))
      go_ret3
      unfold EncPost
      rw [HE.out]
      exact ⟨_, rfl, World.ownsRow_nil _ _ _ _, below_drewN' (Below.refl _ _) (Hid.out (by assumption))⟩
    · have hlong' : s.size ≤ 65536 := by omega
      clear hlong
      have hdl : decide ((65536 : Int) < (s.size : Int)) = false := by simp; omega
      go_enter Try.func16, Try.ntmps16
      go_wp2_with fail
      refine (right_calls l _ hl).mono ?_
      rintro e w1 ⟨rfl, hd⟩
      rw [HR.out]
      have HB : Hid (Below w.heap.size w w1) := below_drewN' (Below.refl _ _) hd
      have hsz : w.heap.size ≤ w1.heap.size := HB.out.size
      clear hd
      go_wp2_with (at_make; refine wpList_make_full _ rfl _ _ 32 rfl w.heap.size 3 i0 (.int .i64 0) 1 Try.underlying32 hi hz0 hz1 .i64 .i64 _ _ s.size rfl rfl rfl rfl (by rw [hz2]; omega) (by unfold maxLen; omega) hsz ?_; intro w2 hown hgrow)
      have HO : Hid (w2.ownsRow w.heap.size 3 1 (.slice (some ⟨w1.heap.size, 0, none⟩) s.size s.size) s.size (madeCells (Value.int .i64 0).cells (s.size * 1)).toList) := hown
      have HB2 : Hid (Below w.heap.size w w2) := HB.out.grown hgrow hsz (by intro k hk; cases hk)
      clear hown hgrow HB
      generalize w1.heap.size = g at *
      go_loopw [8, 9, 21] (fun _ _ i wr => ∃ k : Nat, k ≤ s.size ∧ i = .int .i64 k ∧ EncInv w l s g k wr) (fun _ _ i _ => s.size - (intOf i).toNat)
      case atStart => exact ⟨0, Nat.zero_le _, rfl, EncInv.start HO.out HB2.out⟩
      case round =>
        obtain ⟨k, hk, rfl, hinv⟩ := hrel
        have HI : Hid (EncInv w l s g k wr) := hinv
        clear hinv HO HB2
        by_cases hlt : k < s.size
        · have hc := HI.out.cell hlt
          have hfz := HI.out.frozen
          by_cases hneg : codeOf l.data.toList (s[k].toNat : Int) < 0
          · have HE : Hid (encB l.data.toList s.data.toList = ([], k, 11)) := encB_bad (by omega) HR.out HI.out hlt hneg
            go_wp2_with (go_at_call 26; refine (numberAt_calls l s k _ hlt).mono ?_; rintro e w' ⟨rfl, rfl⟩)
            go_ret3
            unfold EncPost
            rw [HE.out]
            exact ⟨_, rfl, World.ownsRow_nil _ _ _ _, HI.out.below⟩
          · go_wp2_with (go_at_call 26; refine (numberAt_calls l s k _ hlt).mono ?_; rintro e w' ⟨rfl, rfl⟩)
            go_roundw
            case rel => exact ⟨k + 1, by omega, by go_num, HI.out.step hlt (by omega)⟩
            case measure => simp [intOf]; omega
        · have HE : Hid (encB l.data.toList s.data.toList = (s.data.toList.map fun c => codeOf l.data.toList (c.toNat : Int), 0, 0)) := encB_all (by omega) HR.out (by rw [show s.data.toList.length = k from by omega]; exact HI.out.all)
          go_wp2
          go_ret3
          unfold EncPost
          rw [HE.out]
          exact ⟨_, rfl, HI.out.ends (by omega), HI.out.below⟩
end Go.Proofs.Ytefngikfidlojaa
