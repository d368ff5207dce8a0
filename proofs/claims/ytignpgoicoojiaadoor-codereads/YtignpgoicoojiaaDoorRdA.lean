/-
  The reader in memory; the walks of next, halved, number.
-/
import Derived.Test.YtignpgoicoojiaaDoorWrG
namespace Go.Proofs.YtignpgoicoojiaaDoor
open Go.RowKit

theorem grown_refl (w : World) (r : Option Nat) : w.grownBy w r := ⟨rfl, rfl, rfl, Nat.le_refl _, fun _ _ _ => rfl⟩
theorem grown_set (w : World) (g i : Nat) (v : Value) : w.grownBy (w.setCell ⟨g, i, none⟩ v) (some g) :=
  ⟨by unfold World.setCell; split <;> rfl, by unfold World.setCell; split <;> rfl, by unfold World.setCell; split <;> rfl, by simp, fun k _ hk => Below.heap_setCell w _ v k (fun e => hk (by rw [e]))⟩
theorem grown_trans {w w' w'' : World} {r : Option Nat} (h : w.grownBy w' r) (k : w'.grownBy w'' r) : w.grownBy w'' r :=
  ⟨k.os.trans h.os, k.tape.trans h.tape, k.output.trans h.output, Nat.le_trans h.size k.size, fun i hi hr => (k.block i (Nat.lt_of_lt_of_le hi h.size) hr).trans (h.block i hi hr)⟩
theorem grown_drewN {w : World} {r : Option Nat} (n : Nat) : w.grownBy (w.drewN n) r := ⟨by first | rfl | simp, by first | rfl | simp, by first | rfl | simp, Nat.le_of_eq (by first | rfl | simp), fun _ _ _ => by first | rfl | simp⟩
theorem grown_below {w w' : World} {r : Option Nat} (h : Below w.heap.size w w') : w.grownBy w' r := ⟨h.os, h.tape, h.output, h.size, fun k hk _ => h.block k hk⟩

/-- The reader's box. -/
structure Rd (w : World) (b : Nat) (s : ByteArray) (st : Sr) : Prop where
  box : w.heap[b]? = some (.cells #[.string s, .int .i64 (st.1 : Int), .bool st.2] 56 (0, 0))
  le : st.1 ≤ s.size
  short : s.size ≤ maxLen
theorem Rd.c0 {w : World} {b : Nat} {s : ByteArray} {st : Sr} (h : Rd w b s st) : w.cell? ⟨b, 0, none⟩ = some (.string s) := cell_block h.box 0 _ rfl
theorem Rd.c1 {w : World} {b : Nat} {s : ByteArray} {st : Sr} (h : Rd w b s st) : w.cell? ⟨b, 1, none⟩ = some (.int .i64 (st.1 : Int)) := cell_block h.box 1 _ rfl
theorem Rd.c2 {w : World} {b : Nat} {s : ByteArray} {st : Sr} (h : Rd w b s st) : w.cell? ⟨b, 2, none⟩ = some (.bool st.2) := cell_block h.box 2 _ rfl
theorem Rd.fz {w : World} {b : Nat} {s : ByteArray} {st : Sr} (h : Rd w b s st) (i : Nat) : w.frozen? ⟨b, i, none⟩ = false := frozen_of_row w b i _ _ h.box
theorem Rd.other {w w' : World} {b : Nat} {s : ByteArray} {st : Sr} (h : Rd w b s st) {r : Option Nat} (hg : w.grownBy w' r) (hr : some b ≠ r) : Rd w' b s st :=
  ⟨by rw [hg.block b (lt_block h.box) hr]; exact h.box, h.le, h.short⟩
theorem Rd.drewN {w : World} {b : Nat} {s : ByteArray} {st : Sr} (h : Rd w b s st) (n : Nat) : Rd (w.drewN n) b s st := ⟨by simpa using h.box, h.le, h.short⟩
theorem Rd.bad {w : World} {b : Nat} {s : ByteArray} {st : Sr} (h : Rd w b s st) : Rd (w.setCell ⟨b, 2, none⟩ (.bool true)) b s (st.1, true) :=
  ⟨by rw [heap_setCell_same w b 2 _ _ _ h.box]; rfl, h.le, h.short⟩
theorem Rd.put {w : World} {b : Nat} {s : ByteArray} {st : Sr} (h : Rd w b s st) {k : Nat} {z : Int} (hz : z = (k : Int)) (hk : k ≤ s.size) : Rd (w.setCell ⟨b, 1, none⟩ (.int .i64 z)) b s (k, st.2) :=
  ⟨by rw [heap_setCell_same w b 1 _ _ _ h.box, hz]; rfl, hk, h.short⟩

set_option maxHeartbeats 1000000 in
theorem next_calls (b : Nat) (s : ByteArray) (st : Sr) (w : World) (h : Rd w b s st) :
    Calls Tryd.prog 63 #[.pointer (some ⟨b, 0, none⟩)] w fun e w' => e = .returned (.int .u8 ((nextR s.data.toList st).1.toNat : Int)) ∧ Rd w' b s (nextR s.data.toList st).2 ∧ w.grownBy w' (some b) := by
  have hs := h.short
  have hle := h.le
  unfold maxLen at hs
  have HR : Hid (Rd w b s st) := h
  have c0 := h.c0
  have c1 := h.c1
  have c2 := h.c2
  clear h
  obtain ⟨at0, wr⟩ := st
  simp only at c1 c2 hle
  have HL : Hid (s.data.toList.length = s.size) := size_toList s
  cases wr
  · by_cases he : at0 = s.size
    · have HN : Hid (nextR s.data.toList (at0, false) = (0, (at0, true))) := by
        show _ = _
        rw [nextR, if_pos (by rw [HL.out]; simp [he])]
      have hd : ((at0 : Int) == (s.size : Int)) = true := by rw [he]; simp
      clear he
      go_enter Tryd.func63, Tryd.ntmps63
      go_wp2_with fail
      go_quiet (fail)
      have HB : Hid (Rd ((w.drewN nq).setCell ⟨b, 2, none⟩ (.bool true)) b s (at0, true) ∧ w.grownBy ((w.drewN nq).setCell ⟨b, 2, none⟩ (.bool true)) (some b)) := ⟨(HR.out.drewN nq).bad, grown_trans (grown_drewN nq) (grown_set _ _ _ _)⟩
      have fz := (HR.out.drewN nq).fz 2
      have d2 := (HR.out.drewN nq).c2
      simp only at d2
      generalize w.drewN nq = wd at *
      go_wp2
      go_ret
      rw [HN.out]
      exact ⟨rfl, HB.out.1, HB.out.2⟩
    · have hlt : at0 < s.size := by omega
      have HN : Hid (nextR s.data.toList (at0, false) = (s[at0], (at0 + 1, false))) := by
        show _ = _
        rw [nextR, if_neg (by rw [HL.out]; simp [he]), List.getD, getElem?_at s at0 hlt]; rfl
      have hd : ((at0 : Int) == (s.size : Int)) = false := by simp; omega
      clear he
      go_enter Tryd.func63, Tryd.ntmps63
      go_wp2_with fail
      go_quiet (fail)
      have d1 := (HR.out.drewN nq).c1
      have fz := (HR.out.drewN nq).fz 1
      have HB : Hid (Rd ((w.drewN nq).setCell ⟨b, 1, none⟩ (.int .i64 ((at0 : Int) + 1))) b s (at0 + 1, false) ∧ w.grownBy ((w.drewN nq).setCell ⟨b, 1, none⟩ (.int .i64 ((at0 : Int) + 1))) (some b)) := ⟨(HR.out.drewN nq).put (by omega) (by omega), grown_trans (grown_drewN nq) (grown_set _ _ _ _)⟩
      simp only at d1
      generalize w.drewN nq = wd at *
      go_wp2_with fail
      obtain ⟨wx, hwx⟩ : ∃ wx, wd.setCell ⟨b, 1, none⟩ (.int .i64 ((at0 : Int) + 1)) = wx := ⟨_, rfl⟩
      rw [hwx] at HB ⊢
      clear hwx
      have e0 := HB.out.1.c0
      have e1 := HB.out.1.c1
      simp only at e1
      have hix : ((at0 + 1 : Nat) : Int) - 1 = (at0 : Int) := by omega
      go_quiet (fail)
      have HB2 : Hid (Rd (wx.drewN nq) b s (at0 + 1, false) ∧ w.grownBy (wx.drewN nq) (some b)) := ⟨HB.out.1.drewN _, grown_trans HB.out.2 (grown_drewN _)⟩
      go_wp2
      go_ret
      rw [HN.out]
      exact ⟨rfl, HB2.out.1, HB2.out.2⟩
  · have HN : Hid (nextR s.data.toList (at0, true) = (0, (at0, true))) := by show _ = _; rw [nextR, if_pos (by simp)]
    go_enter Tryd.func63, Tryd.ntmps63
    go_wp2_with fail
    go_quiet (fail)
    have HB : Hid (Rd ((w.drewN nq).setCell ⟨b, 2, none⟩ (.bool true)) b s (at0, true) ∧ w.grownBy ((w.drewN nq).setCell ⟨b, 2, none⟩ (.bool true)) (some b)) := ⟨(HR.out.drewN nq).bad, grown_trans (grown_drewN nq) (grown_set _ _ _ _)⟩
    have fz := (HR.out.drewN nq).fz 2
    have d2 := (HR.out.drewN nq).c2
    simp only at d2
    generalize w.drewN nq = wd at *
    go_wp2
    go_ret
    rw [HN.out]
    exact ⟨rfl, HB.out.1, HB.out.2⟩
end Go.Proofs.YtignpgoicoojiaaDoor
