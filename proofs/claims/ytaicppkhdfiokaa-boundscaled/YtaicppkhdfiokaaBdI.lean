/-
  The walk of awake.
-/
import Derived.Test.YtaicppkhdfiokaaBdH
namespace Go.Proofs.Ytaicppkhdfiokaa
open Go.RowKit

def mA : Md := ⟨2, [2, -3, -3, 2], [(4, 1)], 2, false, 0, 0, 0, 0, 0⟩
def mO : Md := ⟨0, [], [], 0, false, 0, 0, 0, 0, 0⟩
theorem mA_right : rightM mA = true := by decide
theorem mA_wid : wid mA = 5 := by decide
theorem mA_most : most 5 = 65536 := by decide
theorem mA_range : ranL mA 3 5 = -50 ∧ ranH mA 3 5 = 15 ∧ ranE mA 3 5 = 0 := by decide
theorem mO_right : rightM mO = false := by decide
theorem gps_new {w : World} {g : Nat} {l : List (Int × Int)} {cs : Array Value} {t : TypeId} {f : Nat × Nat} (h : w.heap[g]? = some (.cells cs t f)) (hc : ∀ (i : Nat) (x : Int × Int), l[i]? = some x → cs[i * 2]? = some (.int .i64 x.1) ∧ cs[i * 2 + 1]? = some (.int .i64 x.2)) (hs : l.length ≤ maxLen) : GpsAt w (some ⟨g, 0, none⟩) l.length l := by
  refine ⟨rfl, hs, fun _ => ⟨g, 0, rfl, fun i x hi => ?_⟩⟩
  rw [Nat.zero_add]
  exact ⟨cell_block h _ _ (hc i x hi).1, cell_block h _ _ (hc i x hi).2⟩
def mAc (b : Nat) : Array Value := mdCells mA (some ⟨b, 0, none⟩) 4 4 (some ⟨b + 1, 0, none⟩) 1 1
structure AwS (w wr : World) : Prop where
  low : Below w.heap.size w wr
  at' : MdAt wr mA (some ⟨w.heap.size, 0, none⟩) 4 (some ⟨w.heap.size + 1, 0, none⟩) 1
  box : wr.heap[w.heap.size + 1 + 1]? = some (.cells (mAc w.heap.size) 25 (0, 0))
theorem lt_block {w : World} {g : Nat} {o : Obj} (h : w.heap[g]? = some o) : g < w.heap.size := (Array.getElem?_eq_some_iff.1 h).1
theorem AwS.next {w wr w2 : World} (h : AwS w wr) (hb : Below wr.heap.size wr w2) : AwS w w2 :=
  ⟨h.low.trans (hb.mono h.low.size), h.at'.below hb, by rw [hb.block _ (lt_block h.box)]; exact h.box⟩
theorem AwS.start (w : World) : AwS w (((w.alloc (.cells #[.int .i64 2, .int .i64 (-3), .int .i64 (-3), .int .i64 2] 3)).alloc (.cells #[.int .i64 4, .int .i64 1] 32)).alloc (.cells (mAc w.heap.size) 25)) := by
  refine ⟨(((Below.refl _ _).alloc (Nat.le_refl _) _).alloc (by simp) _).alloc (by simp; omega) _, ⟨?_, ?_⟩, ?_⟩
  · exact (four_new w 2 (-3) (-3) 2 _ rfl).below (((Below.refl _ _).alloc (Nat.le_refl _) _).alloc (by simp) _)
  · have h := heap_alloc_new (w.alloc (.cells #[.int .i64 2, .int .i64 (-3), .int .i64 (-3), .int .i64 2] 3)) (.cells #[.int .i64 4, .int .i64 1] 32)
    have e : (w.alloc (.cells #[.int .i64 2, .int .i64 (-3), .int .i64 (-3), .int .i64 2] 3)).heap.size = w.heap.size + 1 := by simp
    rw [e] at h
    have := gps_new (l := [(4, 1)]) h (by
      intro i x hi
      match i, hi with
      | 0, hi => cases hi; exact ⟨rfl, rfl⟩) (by unfold maxLen; simp)
    exact this.below ((Below.refl _ _).alloc (Nat.le_refl _) _)
  · have h := heap_alloc_new ((w.alloc (.cells #[.int .i64 2, .int .i64 (-3), .int .i64 (-3), .int .i64 2] 3)).alloc (.cells #[.int .i64 4, .int .i64 1] 32)) (.cells (mAc w.heap.size) 25)
    have e : ((w.alloc (.cells #[.int .i64 2, .int .i64 (-3), .int .i64 (-3), .int .i64 2] 3)).alloc (.cells #[.int .i64 4, .int .i64 1] 32)).heap.size = w.heap.size + 1 + 1 := by simp
    rwa [e] at h
theorem AwS.cell {w wr : World} (h : AwS w wr) (i : Nat) (v : Value) (hv : (mAc w.heap.size)[i]? = some v) : wr.cell? ⟨w.heap.size + 1 + 1, i, none⟩ = some v := cell_block h.box i v hv
theorem mO_at (w : World) : MdAt w mO none 0 none 0 := ⟨IntsAt.nil _ _, GpsAt.nil _ _⟩
theorem widA {w w' : World} {e : Ending} (h : widPost mA w e w') : e = .returned (.tuple #[.int .i64 5, .int .i64 0]) ∧ Below w.heap.size w w' := by
  obtain ⟨h1, h2⟩ := h
  rw [mA_right, if_pos rfl, if_pos rfl, mA_wid] at h1
  exact ⟨h1, h2⟩
theorem mostA {w w' : World} {e : Ending} (h : mostPost mA w e w') : e = .returned (.tuple #[.int .i64 65536, .int .i64 0]) ∧ Below w.heap.size w w' := by
  obtain ⟨h1, h2⟩ := h
  rw [mA_right, if_pos rfl, if_pos rfl, mA_wid, mA_most] at h1
  exact ⟨h1, h2⟩
theorem mostO {w w' : World} {e : Ending} (h : mostPost mO w e w') : e = .returned (.tuple #[.int .i64 0, .int .i64 110]) ∧ Below w.heap.size w w' := by
  obtain ⟨h1, h2⟩ := h
  rw [mO_right] at h1
  exact ⟨h1, h2⟩
theorem ranA {w w' : World} {e : Ending} (h : ranPost mA 3 5 w e w') : e = .returned (.tuple #[.int .i64 (-50), .int .i64 15, .int .i64 0]) ∧ Below w.heap.size w w' := by
  obtain ⟨h1, h2⟩ := h
  rw [mA_range.1, mA_range.2.1, mA_range.2.2] at h1
  exact ⟨h1, h2⟩
set_option maxHeartbeats 400000 in
theorem awake_calls (w : World) : Calls Try.prog 8 #[] w fun e w' => e = .returned (.bool true) ∧ Below w.heap.size w w' := by
  go_enter Try.func8, Try.ntmps8
  go_wp2_with fail
  have H0 := AwS.start w
  refine (widest_model mA (some ⟨w.heap.size, 0, none⟩) 4 4 (some ⟨w.heap.size + 1, 0, none⟩) 1 1 _ H0.at').mono ?_
  intro e w1 hp
  obtain ⟨rfl, hb⟩ := widA hp
  have H1 : Hid (AwS w w1) := H0.next hb
  clear hp hb H0
  have c0 := H1.out.cell 0 (.int .i64 2) rfl
  have c1 := H1.out.cell 1 (.slice (some ⟨w.heap.size, 0, none⟩) 4 4) rfl
  have c2 := H1.out.cell 2 (.slice (some ⟨w.heap.size + 1, 0, none⟩) 1 1) rfl
  have c3 := H1.out.cell 3 (.int .i64 2) rfl
  have c4 := H1.out.cell 4 (.bool false) rfl
  have c5 := H1.out.cell 5 (.int .i64 0) rfl
  have c6 := H1.out.cell 6 (.int .i64 0) rfl
  have c7 := H1.out.cell 7 (.int .i64 0) rfl
  have c8 := H1.out.cell 8 (.int .i64 0) rfl
  have c9 := H1.out.cell 9 (.int .i64 0) rfl
  go_wp2_with fail
  refine (most_calls mA (some ⟨w.heap.size, 0, none⟩) 4 4 (some ⟨w.heap.size + 1, 0, none⟩) 1 1 _ H1.out.at').mono ?_
  intro e w2 hp
  obtain ⟨rfl, hb⟩ := mostA hp
  have H2 : Hid (AwS w w2) := H1.out.next hb
  clear hp hb H1 c0 c1 c2 c3 c4 c5 c6 c7 c8 c9
  have c0 := H2.out.cell 0 (.int .i64 2) rfl
  have c1 := H2.out.cell 1 (.slice (some ⟨w.heap.size, 0, none⟩) 4 4) rfl
  have c2 := H2.out.cell 2 (.slice (some ⟨w.heap.size + 1, 0, none⟩) 1 1) rfl
  have c3 := H2.out.cell 3 (.int .i64 2) rfl
  have c4 := H2.out.cell 4 (.bool false) rfl
  have c5 := H2.out.cell 5 (.int .i64 0) rfl
  have c6 := H2.out.cell 6 (.int .i64 0) rfl
  have c7 := H2.out.cell 7 (.int .i64 0) rfl
  have c8 := H2.out.cell 8 (.int .i64 0) rfl
  have c9 := H2.out.cell 9 (.int .i64 0) rfl
  go_wp2_with fail
  refine (range_calls mA (some ⟨w.heap.size, 0, none⟩) 4 4 (some ⟨w.heap.size + 1, 0, none⟩) 1 1 3 5 _ H2.out.at').mono ?_
  intro e w3 hp
  obtain ⟨rfl, hb⟩ := ranA hp
  have H3 : Hid (AwS w w3) := H2.out.next hb
  clear hp hb H2 c0 c1 c2 c3 c4 c5 c6 c7 c8 c9
  go_wp2_with fail
  refine (most_calls mO none 0 0 none 0 0 _ (mO_at _)).mono ?_
  intro e w4 hp
  obtain ⟨rfl, hb⟩ := mostO hp
  have H4 : Hid (AwS w w4) := H3.out.next hb
  clear hp hb H3
  go_wp2
  go_ret
  exact ⟨rfl, H4.out.low⟩
end Go.Proofs.Ytaicppkhdfiokaa
