/-
  The walks of Range, of the document's Range, and of awake.
-/
import Derived.Test.YtegndeefddlccabBdG
namespace Go.Proofs.Ytegndeefddlccab
open Go.RowKit

theorem ran_mk {m : Md} {r c : Int} {w w' : World} (hb : Below w.heap.size w w') {l h e : Int} (h1 : ranL m r c = l) (h2 : ranH m r c = h) (h3 : ranE m r c = e) : ranPost m r c w (.returned (.tuple #[.int .i64 l, .int .i64 h, .int .i64 e])) w' := by
  subst h1 h2 h3
  exact ⟨rfl, hb⟩
theorem ran_err {m : Md} {r c : Int} {w w' : World} (hb : Below w.heap.size w w') {e : Int} (h3 : ranE m r c = e) (hne : e ≠ 0) : ranPost m r c w (.returned (.tuple #[.int .i64 0, .int .i64 0, .int .i64 e])) w' :=
  ran_mk hb (by unfold ranL; rw [h3, if_neg hne]) (by unfold ranH; rw [h3, if_neg hne]) h3
theorem ran_no {m : Md} (h : rightM m = false) (r c : Int) : ranE m r c = 110 := by unfold ranE; rw [h]; rfl
theorem ran_neg {m : Md} (h : rightM m = true) {r c : Int} (hn : r < 0 ∨ c < 0) : ranE m r c = 1 := by unfold ranE; rw [h, if_pos rfl, if_pos hn]
theorem ran_long {m : Md} (h : rightM m = true) {r c : Int} (hr : 0 ≤ r) (hc : 0 ≤ c) (hn : most (wid m) < max r c) : ranE m r c = 170 := by unfold ranE; rw [h, if_pos rfl, if_neg (by omega), if_pos hn]
theorem ran_ok {m : Md} (h : rightM m = true) {r c : Int} (hr : 0 ≤ r) (hc : 0 ≤ c) (hn : max r c ≤ most (wid m)) : ranE m r c = 0 := by unfold ranE; rw [h, if_pos rfl, if_neg (by omega), if_neg (by omega)]

set_option maxHeartbeats 400000 in
theorem range_calls (m : Md) (sa : Option Addr) (sn sc : Nat) (ga : Option Addr) (gn gc : Nat) (r c : Int) (w : World) (h : MdAt w m sa sn ga gn) :
    Calls Try.prog 10 #[.agg (mdCells m sa sn sc ga gn gc), .int .i64 r, .int .i64 c] w fun e w' => ranPost m r c w e w' := by
  have HM : Hid (MdAt w m sa sn ga gn) := h
  clear h
  have hr : ∃ q, rightM m = q := ⟨_, rfl⟩
  obtain ⟨q, hr⟩ := hr
  have HR : Hid (rightM m = q) := hr
  clear hr
  rw [show mdCells m sa sn sc ga gn gc = #[.int .i64 m.letters, .slice sa sn sc, .slice ga gn gc, .int .i64 m.mode, .bool m.banded, .int .i64 m.lo, .int .i64 m.hi, .int .i64 m.front, .int .i64 m.back, .int .i64 m.least] from rfl]
  go_enter Try.func10, Try.ntmps10
  go_wp2_with fail
  refine (widest_model m sa sn sc ga gn gc _ (HM.out.below ((Below.refl _ _).alloc (Nat.le_refl _) _))).mono ?_
  rintro e w1 ⟨rfl, hb⟩
  rw [HR.out]
  have HB : Hid (Below w.heap.size w w1) := ((Bx.start w (mdCells m sa sn sc ga gn gc)).next hb).low
  clear hb
  cases q
  · have HE : Hid (ranE m r c = 110) := ran_no HR.out r c
    go_wp2
    go_ret3
    exact ran_err HB.out HE.out (by decide)
  · have hw := (rightM_out HR.out).wid
    have hm := most_bd _ hw.1 hw.2
    rw [if_pos rfl, if_pos rfl]
    by_cases h1 : r < 0
    · have HE : Hid (ranE m r c = 1) := ran_neg HR.out (Or.inl h1)
      go_wp2
      go_ret3
      exact ran_err HB.out HE.out (by decide)
    by_cases h2 : c < 0
    · have HE : Hid (ranE m r c = 1) := ran_neg HR.out (Or.inr h2)
      go_wp2
      go_ret3
      exact ran_err HB.out HE.out (by decide)
    have hmx := fun ts t (W : World) => max2' ts t r c W
    by_cases h3 : most (wid m) < max r c
    · have HE : Hid (ranE m r c = 170) := ran_long HR.out (by omega) (by omega) h3
      have HW : Hid (1 ≤ wid m ∧ wid m ≤ 144115188075855872) := hw
      clear hw hm
      generalize max r c = x at *
      go_wp2_with (go_at_call 20; refine (mostOf_calls _ _ HW.out.1 HW.out.2).mono ?_; rintro e w' ⟨rfl, rfl⟩)
      go_ret3
      exact ran_err HB.out HE.out (by decide)
    · have HE : Hid (ranE m r c = 0) := ran_ok HR.out (by omega) (by omega) (by omega)
      have HL : Hid (ranL m r c = -(r + c + 2) * wid m) := by have := HE.out; unfold Hid ranL; rw [this, if_pos rfl]
      have HH : Hid (ranH m r c = min r c * wid m) := by have := HE.out; unfold Hid ranH; rw [this, if_pos rfl]
      have hb := ran_bd hw.1 hw.2 (r := r) (c := c) (by omega) (by omega) (by omega)
      have HW : Hid (1 ≤ wid m ∧ wid m ≤ 144115188075855872) := hw
      have hr1 : r ≤ 65536 := by omega
      have hc1 : c ≤ 65536 := by omega
      clear hw hm
      obtain ⟨⟨b1, b2⟩, ⟨b3, b4⟩, b5, b6⟩ := hb
      by_cases h4 : c < r
      · have hx : max r c = r := by omega
        have hn : min r c = c := by omega
        rw [hx] at hmx h3
        rw [hn] at HH
        clear hx hn
        generalize wid m = v at *
        go_wp2_with (go_at_call 20; refine (mostOf_calls _ _ HW.out.1 HW.out.2).mono ?_; rintro e w' ⟨rfl, rfl⟩)
        go_ret3
        exact ran_mk HB.out HL.out HH.out HE.out
      · have hx : max r c = c := by omega
        have hn : min r c = r := by omega
        rw [hx] at hmx h3
        rw [hn] at HH
        clear hx hn
        generalize wid m = v at *
        go_wp2_with (go_at_call 20; refine (mostOf_calls _ _ HW.out.1 HW.out.2).mono ?_; rintro e w' ⟨rfl, rfl⟩)
        go_ret3
        exact ran_mk HB.out HL.out HH.out HE.out

end Go.Proofs.Ytegndeefddlccab
