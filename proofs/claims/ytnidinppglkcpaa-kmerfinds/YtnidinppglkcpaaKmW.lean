/-
  Words.
-/
import Derived.Test.YtnidinppglkcpaaKmB
import Derived.Sort.KeysCollected
import Derived.Sort.OwnSorted
import Derived.OwnWalk
import Derived.Maps.AppendAt
namespace Go.Proofs.Ytnidinppglkcpaa
open Go.RowKit Go.Maps Go.Sort

theorem info9 : (Try.prog.info? 9).map (fun i => (i.zero, i.size, i.bytes)) = some (some (.string ⟨#[]⟩), 1, 16) := by kernel_rfl
theorem cell_grown {w w1 : World} {row : Option Nat} (h : w.grownBy w1 row) {x : Nat} (hx : x < w.heap.size) (hr : some x ≠ row) (i : Nat) : w1.cell? ⟨x, i, none⟩ = w.cell? ⟨x, i, none⟩ := by
  simp [World.cell?, h.block x hx hr]
def WdPost (l : List Wd) (w : World) (e : Ending) (w' : World) : Prop := ∃ v, e = .returned v ∧ w'.ownsRow w.heap.size 9 1 v l.length (wdVals l) ∧ Below w.heap.size w w'
set_option maxRecDepth 100000 in
set_option maxHeartbeats 1000000 in
theorem words_calls {w : World} {base x mb : Nat} {k : Int} {L : List Oc} {f : Wd → Value} (h : IxAt w base x mb k L f) (hL : L.length ≤ 1048576) (hwd : ∀ o ∈ L, o.1.length ≤ 16) :
    Calls Try.prog 17 #[.pointer (some ⟨x, 0, none⟩)] w (WdPost (wdsOf L) w) := by
  obtain ⟨i0, hi, hz0, hz1, hz2⟩ := info_parts info9
  obtain ⟨n, D0, hn, hown, hhas, _⟩ := h.mp.ex
  have hc := h.c0
  have hsz : Maps.size D0 ≤ n := hown.size_le
  have hbl := hown.lt
  have HW : Hid (∀ o ∈ L, o.1.length ≤ 16) := hwd
  have HH : Hid (∀ s, Maps.has D0 (.string s) = true ↔ ∃ o ∈ L, o.1 = s) := by
    intro s
    rw [hhas s, ← pls_ne_nil]
    simp
  have hxl := h.lt
  clear h hwd hhas
  go_enter Try.func17, Try.ntmps17
  go_wp2_with (first
    | (at_len; refine wpList_len_own _ rfl _ 34 rfl 9 42 Try.underlying34 _ mb n _ rfl hown ?_)
    | (at_make; refine wpList_make_own _ rfl _ _ 22 rfl w.heap.size 9 i0 (.string ⟨#[]⟩) 1 Try.underlying22 hi hz0 hz1 _ _ _ (Maps.size D0) rfl rfl rfl (by rw [hz2]; omega) (by unfold maxLen; omega) (Nat.le_refl _) ?_; intro w1 hrow1 hg1; have hc1 := (cell_grown hg1 hxl (by simp) 0).trans hc)
    | (at_range; refine wpList_range_own _ rfl _ 34 rfl 9 42 key9 Try.underlying34 _ mb n _ rfl (hown.kept hg1 (by simp)) ?_; intro w0 hrg0 hg0 hs0)
    | go_in)
  go_frame
  go_loopw [3] (fun v wr => ∃ (left : Lit → Bool) (cnt : Nat) (ss : List Wd), wr.ranges Try.prog 9 slE mb w1.heap.size n D0 left cnt ∧ ss.length + cnt ≤ Maps.size D0 ∧
      wr.ownsRow w.heap.size 9 1 v ss.length (ss.map encStr) ∧ v ≠ .slice none 0 0 ∧ Collected D0 left ss ∧ Below w.heap.size w wr)
    (fun _ wr => wr.rangeLeft mb w1.heap.size)
  case atStart =>
    exact ⟨_, _, [], hrg0, by simp, hrow1.kept hg0 (Or.inr (by simp [Value.ownBlock])), by simp, Collected.start D0,
      ((Below.refl _ _).grown hg1 (Nat.le_refl _) (fun j hj => by cases hj)).grown hg0 hg1.size (fun j hj => by cases hj)⟩
  case round =>
    obtain ⟨left, cnt, ss, hrg, hcs, hrow, hnn, hC, hnx⟩ := hrel
    go_wp2_with (first
      | (at_next; refine wpList_next_ranges _ rfl _ rfl 9 key9 slE encStr (fun v : Value => v) (fun key kl hk => by obtain ⟨x, hx, _⟩ := Maps.keyOf_str Try.underlying9 hk; exact ⟨x, hx⟩) (fun v y hv => ⟨v, rfl⟩) mb w1.heap.size n _ _ _ rfl hrg ?_ ?_)
      | go_in)
    · intro hc0 hl0
      rcases hrow.2 with ⟨hnil, _⟩ | ⟨g, cap, cur, rfl, hbase, hb, h1, h2, h3, h4⟩
      · exact absurd hnil hnn
      have hH : Holds encStr wr g 0 ss.toArray := holds_of_block hb (by simpa using h4)
      have hgl : g < wr.heap.size := (Array.getElem?_eq_some_iff.1 hb).1
      have hcall := Try.slices_Sort_string g 0 cap ss wr hH hgl (by omega)
      have hss : ss.mergeSort (fun x y => decide (x ≤ y)) = wdsOf L := sort_wds hC.1 (fun x => by rw [hC.2 x, hl0, ← HH.out x]; simp)
      have hln : (wdsOf L).length = ss.length := by rw [← hss]; simp
      have hres : ∀ nn os, (grow (putRow encStr (Sort.ahead wr nn) g 0 (wdsOf L).toArray) os).ownsRow w.heap.size 9 1 (.slice (some ⟨g, 0, none⟩) ss.length cap) (wdsOf L).length (wdVals (wdsOf L)) ∧
          Below w.heap.size w (grow (putRow encStr (Sort.ahead wr nn) g 0 (wdsOf L).toArray) os) := fun nn os => by
        refine ⟨?_, hnx.grown (grownBy_sorted _) hnx.size (fun j hj => by cases hj; exact hbase)⟩
        rw [hln, wdVals_enc]
        exact ownsRow_sorted hln hbase hb h1 h2 h3
      rw [hss] at hcall
      have HR := hid hres
      clear hres hrow hrg hC hnx hb h4 h3 hss
      go_wp2_with (go_at_call 25; refine hcall.mono ?_; rintro e w' ⟨rfl, nn, os, rfl⟩)
      go_ret
      exact ⟨_, rfl, HR.out nn os⟩
    · intro x c kl yd yp w2 cnt2 hkey hlk hv hat hrg2 hlt hg2 hs2 hen
      obtain ⟨x', ex, rfl, _⟩ := Maps.keyOf_str Try.underlying9 hkey
      obtain rfl : x = x' := encStr_inj ex
      have hrow2 := hrow.kept hg2 (Or.inr (row_ne_iter hrow hrg).symm)
      have hx16 : x.length ≤ 16 := by
        obtain ⟨o, ho, rfl⟩ := (HH.out x).1 (has_true_of_atKey hat)
        exact HW.out o ho
      have hcl := clone_str (bs x) w2 (by rw [bs_size]; omega)
      clear hs2
      go_wp2_with (first
        | (go_at_call 24; refine hcl.mono ?_; rintro e w4 ⟨rfl, hb4⟩; have hrow4 := owned_below hrow2 hb4)
        | (at_builtin; refine wpList_append_own _ rfl _ _ 22 rfl w.heap.size 9 i0 (.string ⟨#[]⟩) 1 16 Try.underlying22 hi hz0 hz1 hz2 rfl (by decide) _ _ _ rfl (hrow4.alloc _) ⟨w4.heap.size, 0, none⟩ 1 1 [.string (bs x)] rfl rfl (cell_one_new _ _ _) (by simp [Value.oneCell']) (by unfold maxLen; omega) (by omega) (by have := hnx.size; have := hg2.size; have := hb4.size; simp; omega) ?_; intro v' w3 hown' hg3 hnil3; go_frame)
        | go_in)
      have hrg4 : w4.ranges Try.prog 9 slE mb w1.heap.size n D0 _ cnt2 := hrg2.kept (row := none) ⟨hb4.os, hb4.tape, hb4.output, hb4.size, fun i hi _ => hb4.block i hi⟩ (by simp) (by simp)
      have hrg3 := (hrg4.alloc _).kept hg3 (row_ne_low hrow4 hbl) (row_ne_iter hrow4 hrg4)
      go_roundw
      case rel =>
        refine ⟨_, cnt2, ss ++ [x], hrg3, by simp; omega, by rw [List.map_append, List.length_append]; exact hown', fun hv' => by have := (hnil3.1 hv').2; omega, hC.step hlk hat, ?_⟩
        exact ((((hnx.grown hg2 hnx.size (fun j hj => by cases hj; exact hg1.size))).trans (hb4.mono (Nat.le_trans hnx.size hg2.size))).alloc (by have := hnx.size; have := hg2.size; have := hb4.size; omega) _).grown hg3 (by have := hnx.size; have := hg2.size; have := hb4.size; simp; omega) (fun j hj => (hrow4.lt j hj).1)
      case measure => rw [hrg3.left_eq, hrg.left_eq]; exact hlt
end Go.Proofs.Ytnidinppglkcpaa
