/-
  The walk of Widest.
-/
import Derived.Test.YtegndeefddlccaaBdD
namespace Go.Proofs.Ytegndeefddlccaa
open Go.RowKit

def widPost (m : Md) (w : World) (e : Ending) (w' : World) : Prop :=
  e = .returned (.tuple #[.int .i64 (if rightM m then wid m else 0), .int .i64 (if rightM m then 0 else 110)]) ∧ Below w.heap.size w w'
theorem Bx.drew {w : World} {cs : Array Value} {wr : World} (h : Bx w cs wr) : Bx w cs wr.drew := h.next (Below.refl _ _).drew

set_option maxHeartbeats 400000 in
theorem widest_no (m : Md) (sa : Option Addr) (sn sc : Nat) (ga : Option Addr) (gn gc : Nat) (w : World) (h : MdAt w m sa sn ga gn) (hr : rightM m = false) :
    Calls Try.prog 62 #[.agg (mdCells m sa sn sc ga gn gc)] w fun e w' => widPost m w e w' := by
  have HM : Hid (MdAt w m sa sn ga gn) := h
  have HR : Hid (rightM m = false) := hr
  clear h hr
  rw [show mdCells m sa sn sc ga gn gc = #[.int .i64 m.letters, .slice sa sn sc, .slice ga gn gc, .int .i64 m.mode, .bool m.banded, .int .i64 m.lo, .int .i64 m.hi, .int .i64 m.front, .int .i64 m.back, .int .i64 m.least] from rfl]
  go_enter Try.func62, Try.ntmps62
  go_wp2_with fail
  refine (right_calls m sa sn sc ga gn gc _ (HM.out.below ((Below.refl _ _).alloc (Nat.le_refl _) _))).mono ?_
  rintro e w1 ⟨rfl, hb⟩
  rw [HR.out]
  have HB : Hid (Below w.heap.size w w1) := ((Bx.start w (mdCells m sa sn sc ga gn gc)).next hb).low
  clear hb
  go_wp2
  go_ret2
  unfold widPost
  rw [HR.out]
  exact ⟨rfl, HB.out⟩

set_option maxHeartbeats 1000000 in
theorem widest_yes (m : Md) (sa : Option Addr) (sn sc : Nat) (ga : Option Addr) (gn gc : Nat) (w : World) (h : MdAt w m sa sn ga gn) (hr : rightM m = true) :
    Calls Try.prog 62 #[.agg (mdCells m sa sn sc ga gn gc)] w fun e w' => widPost m w e w' := by
  have hg := h.gaps.short
  unfold maxLen at hg
  have HM : Hid (MdAt w m sa sn ga gn) := h
  have HR : Hid (rightM m = true) := hr
  have HQ : Hid (RightM m) := rightM_out hr
  clear h hr
  rw [show mdCells m sa sn sc ga gn gc = #[.int .i64 m.letters, .slice sa sn sc, .slice ga gn gc, .int .i64 m.mode, .bool m.banded, .int .i64 m.lo, .int .i64 m.hi, .int .i64 m.front, .int .i64 m.back, .int .i64 m.least] from rfl]
  go_enter Try.func62, Try.ntmps62
  go_wp2_with fail
  refine (right_calls m sa sn sc ga gn gc _ (HM.out.below ((Below.refl _ _).alloc (Nat.le_refl _) _))).mono ?_
  rintro e w1 ⟨rfl, hb⟩
  rw [HR.out]
  have HX : Hid (Bx w (mdCells m sa sn sc ga gn gc) w1) := (Bx.start w (mdCells m sa sn sc ga gn gc)).next hb
  clear hb
  have c1 := HX.out.cell 1 (.slice sa sn sc) rfl
  have c7 := HX.out.cell 7 (.int .i64 m.front) rfl
  have c8 := HX.out.cell 8 (.int .i64 m.back) rfl
  generalize hv : widN m.subst = v0
  have HV : Hid (widN m.subst = v0) := hv
  clear hv
  have hJ : ∃ J : World → Prop, J w1 ∧ (∀ W o, J W → J (W.alloc o)) ∧ (∀ W, J W → J W.drew) ∧ (∀ W, J W → Calls Try.prog 69 #[.slice sa sn sc] W fun e w' => e = .returned (.int .i64 v0) ∧ W = w') ∧ (∀ W, J W → W.cell? ⟨w.heap.size, 1, none⟩ = some (.slice sa sn sc) ∧ W.cell? ⟨w.heap.size, 7, none⟩ = some (.int .i64 m.front) ∧ W.cell? ⟨w.heap.size, 8, none⟩ = some (.int .i64 m.back)) := by
    refine ⟨fun W => IntsAt W sa sn m.subst ∧ Bx w (mdCells m sa sn sc ga gn gc) W, ⟨HM.out.subst.below HX.out.low, HX.out⟩, fun W o h => ⟨h.1.below ((Below.refl _ _).alloc (Nat.le_refl _) _), h.2.alloc _⟩, fun W h => ⟨h.1.drew, h.2.drew⟩, fun W h => ?_, fun W h => ⟨h.2.cell 1 _ rfl, h.2.cell 7 _ rfl, h.2.cell 8 _ rfl⟩⟩
    rw [← HV.out]
    exact widest_calls _ _ _ _ _ h.1 (fun n hn => by have := HQ.out.substs n hn; omega)
  obtain ⟨J, hJ0, hJa, hJd, hJc, hJx⟩ := hJ
  have HC1 : Hid (∀ W, J W → Calls Try.prog 69 #[.slice sa sn sc] W fun e w' => e = .returned (.int .i64 v0) ∧ W = w') := hJc
  have HC2 : Hid (Calls Try.prog 69 #[.slice (some ⟨w1.heap.size, 0, none⟩) 4 4] (w1.alloc (.cells #[.int .i64 1, .int .i64 m.front, .int .i64 m.back, .int .i64 v0] 3)).drew fun e w' => e = .returned (.int .i64 (wid0 m)) ∧ (w1.alloc (.cells #[.int .i64 1, .int .i64 m.front, .int .i64 m.back, .int .i64 v0] 3)).drew = w') := by
    have := widest_calls _ 4 4 _ _ (four_new w1 1 m.front m.back v0 _ rfl).drew (by
      have h1 := HQ.out.front
      have h2 := HQ.out.back
      have h3 := HQ.out.widS
      rw [HV.out] at h3
      intro n hn
      simp at hn
      omega)
    unfold wid0
    rw [HV.out]
    exact this
  have hJa' : Hid (∀ W o, J W → J (W.alloc o)) := hJa
  have hJd' : Hid (∀ W, J W → J W.drew) := hJd
  have hJx' : Hid (∀ W, J W → W.cell? ⟨w.heap.size, 1, none⟩ = some (.slice sa sn sc) ∧ W.cell? ⟨w.heap.size, 7, none⟩ = some (.int .i64 m.front) ∧ W.cell? ⟨w.heap.size, 8, none⟩ = some (.int .i64 m.back)) := hJx
  have hJ1 : J w1.drew := hJd _ hJ0
  have hJ2 : J (w1.alloc (.cells #[.int .i64 1, .int .i64 m.front, .int .i64 m.back, .int .i64 v0] 3)) := hJa _ _ hJ0
  have hJ3 : J (w1.alloc (.cells #[.int .i64 1, .int .i64 m.front, .int .i64 m.back, .int .i64 v0] 3)).drew := hJd _ hJ2
  clear hJa hJd hJx hJc
  go_wp2_with fail
  go_region_held3 (fun W => J W ∧ W.cell? ⟨w.heap.size, 1, none⟩ = some (.slice sa sn sc) ∧ W.cell? ⟨w.heap.size, 7, none⟩ = some (.int .i64 m.front) ∧ W.cell? ⟨w.heap.size, 8, none⟩ = some (.int .i64 m.back)) (first | with_reducible assumption | (refine ⟨?_, hJx'.out _ ?_⟩ <;> with_reducible assumption)) (first
    | (go_at_call 69; with_reducible refine (HC1.out _ (by with_reducible assumption)).mono ?_; rintro e w' ⟨rfl, rfl⟩)
    | (go_at_call 69; with_reducible refine (HC2.out).mono ?_; rintro e w' ⟨rfl, rfl⟩))
  have HZ : Hid (Bx w (mdCells m sa sn sc ga gn gc) (w1.alloc (.cells #[.int .i64 1, .int .i64 m.front, .int .i64 m.back, .int .i64 v0] 3)).drew) := (HX.out.alloc _).drew
  rename_i hh
  clear hh hJ0 hJ1 hJ2 hJ3 HC1 HC2 hJa' hJd' hJx' HX c1 c7 c8
  generalize (w1.alloc (.cells #[.int .i64 1, .int .i64 m.front, .int .i64 m.back, .int .i64 v0] 3)).drew = wz at *
  have c2 := HZ.out.cell 2 (.slice ga gn gc) rfl
  go_wp2
  go_loopw [4, 6, 22] (fun v _ i wr => ∃ k : Nat, k ≤ gn ∧ i = .int .i64 k ∧ v = .int .i64 (widG (m.gaps.take k) (wid0 m)) ∧ Bx w (mdCells m sa sn sc ga gn gc) wr) (fun _ _ i _ => gn - (intOf i).toNat)
  case atStart => exact ⟨0, Nat.zero_le _, rfl, rfl, HZ.out⟩
  case round =>
    obtain ⟨k, hk, rfl, rfl, hbx⟩ := hrel
    have HX : Hid (Bx w (mdCells m sa sn sc ga gn gc) wr) := hbx
    clear hbx
    by_cases hlt : k < gn
    · obtain ⟨g, hgk⟩ := get_lt (l := m.gaps) (k := k) (by rw [HM.out.gaps.length]; exact hlt)
      obtain ⟨b, off, rfl, hcs⟩ := (HM.out.gaps.below HX.out.low).cells (by omega)
      obtain ⟨c1, c2⟩ := hcs k g hgk
      have hT : widG (m.gaps.take (k + 1)) (wid0 m) = max (widG (m.gaps.take k) (wid0 m)) (g.1 + g.2) := by
        rw [take_snocD _ _ _ hgk, widG_snoc]
      have hgb := HQ.out.gap g (List.mem_of_getElem? hgk)
      have hwb := widG_le (m.gaps.take k) (wid0 m) 144115188075855872 (by have := HQ.out.wid0; omega) (fun g hg => by have := HQ.out.gap g (List.mem_of_mem_take hg); omega)
      have hw1 := HQ.out.wid0.1
      have HT : Hid (widG (m.gaps.take (k + 1)) (wid0 m) = max (widG (m.gaps.take k) (wid0 m)) (g.1 + g.2)) := hT
      clear hcs hgk hT
      obtain ⟨a, x⟩ := g
      simp only at c1 c2 hgb
      obtain ⟨⟨ha1, ha2⟩, hx1, hx2⟩ := hgb
      generalize widG (m.gaps.take k) (wid0 m) = v at *
      have hv1 : 0 ≤ v := by omega
      have hv2 : v ≤ 144115188075855872 := by omega
      clear hwb hw1
      go_wp2_with fail
      refine (widest_calls _ _ _ [v, a + x] _ (two_new _ v (a + x) _ (by simp)) (by intro n hn; simp at hn; omega)).mono ?_
      rintro e w' ⟨rfl, rfl⟩
      have HX2 : Hid (Bx w (mdCells m sa sn sc (some ⟨b, off, none⟩) gn gc) ((wr.alloc (.cells #[.int .i64 a, .int .i64 x] 50)).alloc (.cells #[.int .i64 v, .int .i64 (a + x)] 3))) := (HX.out.alloc _).alloc _
      have HW : Hid (widN [v, a + x] = max v (a + x)) := by
        show [v, a + x].foldl wmax 0 = _
        simp only [List.foldl_cons, List.foldl_nil, wmax]
        omega
      rw [HW.out]
      generalize max v (a + x) = u at *
      go_wp2
      go_roundw
      case rel => exact ⟨k + 1, by omega, by go_num, by rw [HT.out], HX2.out⟩
      case measure => simp [intOf]; omega
    · have HE : Hid (widG (m.gaps.take k) (wid0 m) = wid m) := by
        show _ = widG m.gaps (wid0 m)
        rw [List.take_of_length_le (by rw [HM.out.gaps.length]; omega)]
      rw [HE.out]
      go_wp2
      go_ret2
      unfold widPost
      rw [HR.out]
      exact ⟨rfl, HX.out.low⟩
theorem widest_model (m : Md) (sa : Option Addr) (sn sc : Nat) (ga : Option Addr) (gn gc : Nat) (w : World) (h : MdAt w m sa sn ga gn) :
    Calls Try.prog 62 #[.agg (mdCells m sa sn sc ga gn gc)] w fun e w' => widPost m w e w' := by
  cases hr : rightM m
  · exact widest_no m sa sn sc ga gn gc w h hr
  · exact widest_yes m sa sn sc ga gn gc w h hr
end Go.Proofs.Ytegndeefddlccaa
