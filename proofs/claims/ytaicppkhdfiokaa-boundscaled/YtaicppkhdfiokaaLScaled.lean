/-
  BoundScaled is proved for every input: with all numbers so many times what they were the widest is as many times what it was, where it was the numbers' own, and sequences may be no longer. Its condition is the row's own: what is handed in reads as data.
-/
import Derived.Test.YtaicppkhdfiokaaRows
import Derived.Test.YtaicppkhdfiokaaBdI
import Derived.Test.YtaicppkhdfiokaaBdO
import Derived.WalkKit
import Derived.ProofKit
import Derived.OpenShut
import Derived.ShutString
import Derived.ChangeOld
import Derived.Below
import Derived.Test.YtaicppkhdfiokaaBdT
import Derived.BigRegion
import Derived.Deep.RegionHeld3
import Derived.Deep.RegionLaw
namespace Go.Proofs.Ytaicppkhdfiokaa
open Go.RowKit Go.Deep

def widV (m : Md) : Int := if rightM m then wid m else 0
def mostV (m : Md) : Int := if rightM m then most (wid m) else 0
def errV (m : Md) : Int := if rightM m then 0 else 110
theorem widV_post {m : Md} {w w' : World} {e : Ending} (h : widPost m w e w') : e = .returned (.tuple #[.int .i64 (widV m), .int .i64 (errV m)]) ∧ Below w.heap.size w w' := h
theorem mostV_post {m : Md} {w w' : World} {e : Ending} (h : mostPost m w e w') : e = .returned (.tuple #[.int .i64 (mostV m), .int .i64 (errV m)]) ∧ Below w.heap.size w w' := h
theorem errV_no {m : Md} (h : rightM m = false) : errV m = 110 := by unfold errV; rw [h]; rfl
theorem errV_yes {m : Md} (h : rightM m = true) : errV m = 0 ∧ widV m = wid m ∧ mostV m = most (wid m) := by unfold errV widV mostV; rw [h]; exact ⟨rfl, rfl, rfl⟩
theorem it_one (z : Int) : ∀ u ∈ [Value.int .i64 z], u.oneCell' = true := by
  intro u hu
  simp at hu
  subst hu
  rfl
theorem it_two (y z : Int) : ∀ u ∈ [Value.int .i64 y, Value.int .i64 z], u.oneCell' = true := by
  intro u hu
  simp at hu
  rcases hu with rfl | rfl <;> rfl
theorem map_get {α β : Type} (f : α → β) (l : List α) (k : Nat) (x : α) (h : l[k]? = some x) : (l.map f).take (k + 1) = (l.map f).take k ++ [f x] :=
  take_snocD _ _ _ (by rw [List.getElem?_map, h]; rfl)

set_option maxHeartbeats 1000000 in
set_option maxRecDepth 20000 in
theorem scaled_out (m : Md) (sa : Option Addr) (sn sc : Nat) (ga : Option Addr) (gn gc : Nat) (t : Int) (w : World) (h : MdIn w m sa sn ga gn) (hx : rightM m = false ∨ t < 1 ∨ 1000 < t ∨ 1099511627776 < wid m) :
    Calls Try.prog 7 #[.agg (mdCells m sa sn sc ga gn gc), .int .i64 t] w fun e w' => e = .returned (.bool true) ∧ Below w.heap.size w w' := by
  have HM : Hid (MdAt w m sa sn ga gn) := h.at'
  have HX0 : Hid (rightM m = false ∨ t < 1 ∨ 1000 < t ∨ 1099511627776 < wid m) := hx
  clear h hx
  rw [show mdCells m sa sn sc ga gn gc = #[.int .i64 m.letters, .slice sa sn sc, .slice ga gn gc, .int .i64 m.mode, .bool m.banded, .int .i64 m.lo, .int .i64 m.hi, .int .i64 m.front, .int .i64 m.back, .int .i64 m.least] from rfl]
  go_enter Try.func7, Try.ntmps7
  go_wp2_with fail
  refine (awake_calls _).mono ?_
  rintro e w1 ⟨rfl, hb⟩
  have HX : Hid (Bx w (mdCells m sa sn sc ga gn gc) w1) := (Bx.start w _).next hb
  clear hb
  have c0 := HX.out.cell 0 (.int .i64 m.letters) rfl
  have c1 := HX.out.cell 1 (.slice sa sn sc) rfl
  have c2 := HX.out.cell 2 (.slice ga gn gc) rfl
  have c3 := HX.out.cell 3 (.int .i64 m.mode) rfl
  have c4 := HX.out.cell 4 (.bool m.banded) rfl
  have c5 := HX.out.cell 5 (.int .i64 m.lo) rfl
  have c6 := HX.out.cell 6 (.int .i64 m.hi) rfl
  have c7 := HX.out.cell 7 (.int .i64 m.front) rfl
  have c8 := HX.out.cell 8 (.int .i64 m.back) rfl
  have c9 := HX.out.cell 9 (.int .i64 m.least) rfl
  go_wp2_with fail
  refine (widest_model m sa sn sc ga gn gc _ (HM.out.below HX.out.low)).mono ?_
  intro e w2 hp
  obtain ⟨rfl, hb⟩ := widV_post hp
  clear hp
  have HX2 : Hid (Bx w (mdCells m sa sn sc ga gn gc) w2) := HX.out.next hb
  clear hb HX c0 c1 c2 c3 c4 c5 c6 c7 c8 c9
  have c0 := HX2.out.cell 0 (.int .i64 m.letters) rfl
  have c1 := HX2.out.cell 1 (.slice sa sn sc) rfl
  have c2 := HX2.out.cell 2 (.slice ga gn gc) rfl
  have c3 := HX2.out.cell 3 (.int .i64 m.mode) rfl
  have c4 := HX2.out.cell 4 (.bool m.banded) rfl
  have c5 := HX2.out.cell 5 (.int .i64 m.lo) rfl
  have c6 := HX2.out.cell 6 (.int .i64 m.hi) rfl
  have c7 := HX2.out.cell 7 (.int .i64 m.front) rfl
  have c8 := HX2.out.cell 8 (.int .i64 m.back) rfl
  have c9 := HX2.out.cell 9 (.int .i64 m.least) rfl
  go_wp2_with fail
  refine (most_calls m sa sn sc ga gn gc _ (HM.out.below HX2.out.low)).mono ?_
  intro e w3 hp
  obtain ⟨rfl, hb⟩ := mostV_post hp
  clear hp
  have HX3 : Hid (Bx w (mdCells m sa sn sc ga gn gc) w3) := HX2.out.next hb
  clear hb HX2 c0 c1 c2 c3 c4 c5 c6 c7 c8 c9
  cases hr : rightM m
  · have h1 : errV m = 110 := errV_no hr
    rw [h1]
    generalize widV m = v1
    generalize mostV m = v2
    clear h1 hr
    have e1 : ((110 : Int) != 0) = true := rfl
    go_wp2
    go_ret
    exact ⟨rfl, HX3.out.low⟩
  · obtain ⟨h1, h2, h3⟩ := errV_yes hr
    rw [h1, h2, h3]
    have hx2 := HX0.out
    rw [hr] at hx2
    clear HX0
    generalize wid m = v1 at *
    generalize most v1 = v2
    clear h1 h2 h3 hr
    have e1 : ((0 : Int) != 0) = false := rfl
    by_cases ht1 : t < 1
    · clear hx2
      go_wp2
      go_ret
      exact ⟨rfl, HX3.out.low⟩
    · by_cases ht2 : 1000 < t
      · clear hx2
        go_wp2
        go_ret
        exact ⟨rfl, HX3.out.low⟩
      · have ht3 : 1099511627776 < v1 := by simpa [ht1, ht2] using hx2
        clear hx2
        go_wp2
        go_ret
        exact ⟨rfl, HX3.out.low⟩

set_option maxHeartbeats 2000000 in
set_option maxRecDepth 20000 in
theorem scaled_in (m : Md) (sa : Option Addr) (sn sc : Nat) (ga : Option Addr) (gn gc : Nat) (t : Int) (w : World) (h : MdIn w m sa sn ga gn) (hr : rightM m = true) (ht1 : 1 ≤ t) (ht2 : t ≤ 1000) (hw : wid m ≤ 1099511627776) :
    Calls Try.prog 7 #[.agg (mdCells m sa sn sc ga gn gc), .int .i64 t] w fun e w' => e = .returned (.bool true) ∧ Below w.heap.size w w' := by
  obtain ⟨i3, hi3, hz30, hz31, hz32⟩ := info_parts info3
  obtain ⟨i32, hi32, hz320, hz321, hz322⟩ := info_parts info32
  have HM : Hid (MdAt w m sa sn ga gn) := h.at'
  have HR : Hid (rightM m = true) := hr
  have HQ : Hid (RightM m) := rightM_out hr
  have HSR : Hid (rightM (sM m t) = true) := sM_right hr ht1 ht2 hw
  have HSW : Hid ((someG m m.gaps.length = true → wid (sM m t) = wid m * t) ∧ (someG m m.gaps.length = false → wid (sM m t) = 1) ∧ most (wid (sM m t)) ≤ most (wid m)) := sM_wid hr ht1 ht2
  have hsn := h.few
  have hgn := h.less
  have HW : Hid (wid m ≤ 1099511627776) := hw
  clear h hr hw
  rw [show mdCells m sa sn sc ga gn gc = #[.int .i64 m.letters, .slice sa sn sc, .slice ga gn gc, .int .i64 m.mode, .bool m.banded, .int .i64 m.lo, .int .i64 m.hi, .int .i64 m.front, .int .i64 m.back, .int .i64 m.least] from rfl]
  go_enter Try.func7, Try.ntmps7
  go_wp2_with fail
  refine (awake_calls _).mono ?_
  rintro e w1 ⟨rfl, hb⟩
  have HX : Hid (Bx w (mdCells m sa sn sc ga gn gc) w1) := (Bx.start w _).next hb
  clear hb
  have c0 := HX.out.cell 0 (.int .i64 m.letters) rfl
  have c1 := HX.out.cell 1 (.slice sa sn sc) rfl
  have c2 := HX.out.cell 2 (.slice ga gn gc) rfl
  have c3 := HX.out.cell 3 (.int .i64 m.mode) rfl
  have c4 := HX.out.cell 4 (.bool m.banded) rfl
  have c5 := HX.out.cell 5 (.int .i64 m.lo) rfl
  have c6 := HX.out.cell 6 (.int .i64 m.hi) rfl
  have c7 := HX.out.cell 7 (.int .i64 m.front) rfl
  have c8 := HX.out.cell 8 (.int .i64 m.back) rfl
  have c9 := HX.out.cell 9 (.int .i64 m.least) rfl
  go_wp2_with fail
  refine (widest_model m sa sn sc ga gn gc _ (HM.out.below HX.out.low)).mono ?_
  intro e w2 hp
  obtain ⟨rfl, hb⟩ := widV_post hp
  clear hp
  have HX2 : Hid (Bx w (mdCells m sa sn sc ga gn gc) w2) := HX.out.next hb
  clear hb HX c0 c1 c2 c3 c4 c5 c6 c7 c8 c9
  have c0 := HX2.out.cell 0 (.int .i64 m.letters) rfl
  have c1 := HX2.out.cell 1 (.slice sa sn sc) rfl
  have c2 := HX2.out.cell 2 (.slice ga gn gc) rfl
  have c3 := HX2.out.cell 3 (.int .i64 m.mode) rfl
  have c4 := HX2.out.cell 4 (.bool m.banded) rfl
  have c5 := HX2.out.cell 5 (.int .i64 m.lo) rfl
  have c6 := HX2.out.cell 6 (.int .i64 m.hi) rfl
  have c7 := HX2.out.cell 7 (.int .i64 m.front) rfl
  have c8 := HX2.out.cell 8 (.int .i64 m.back) rfl
  have c9 := HX2.out.cell 9 (.int .i64 m.least) rfl
  go_wp2_with fail
  refine (most_calls m sa sn sc ga gn gc _ (HM.out.below HX2.out.low)).mono ?_
  intro e w3 hp
  obtain ⟨rfl, hb⟩ := mostV_post hp
  clear hp
  have HX3 : Hid (Bx w (mdCells m sa sn sc ga gn gc) w3) := HX2.out.next hb
  clear hb HX2 c0 c1 c2 c3 c4 c5 c6 c7 c8 c9
  obtain ⟨h1, h2, h3⟩ := errV_yes HR.out
  rw [h1, h2, h3]
  clear h1 h2 h3
  have hv : ∃ v, wid m = v := ⟨_, rfl⟩
  obtain ⟨v, hv⟩ := hv
  have HV : Hid (wid m = v) := hv
  have hv2 := HW.out
  have hE := ends_le HQ.out
  have hv1 := HQ.out.wid.1
  rw [hv] at hv2 hE hv1
  rw [hv]
  clear hv HW
  generalize hn : most v = n
  have HN : Hid (most v = n) := hn
  clear hn
  have hf := HQ.out.front
  have hbk := HQ.out.back
  have f1 := mul_bd (z := m.front) (t := t) (B := 1099511627776) (by omega) (by omega) (by omega) (by omega) ht2
  have f2 := mul_bd (z := m.back) (t := t) (B := 1099511627776) (by omega) (by omega) (by omega) (by omega) ht2
  obtain ⟨f11, f12⟩ := f1
  obtain ⟨f21, f22⟩ := f2
  have e0 : ((0 : Int) != 0) = false := rfl
  have u1 : ¬ t < 1 := by omega
  have u2 : ¬ 1000 < t := by omega
  have u3 : ¬ 1099511627776 < v := by omega
  have c0 := HX3.out.cell 0 (.int .i64 m.letters) rfl
  have c1 := HX3.out.cell 1 (.slice sa sn sc) rfl
  have c2 := HX3.out.cell 2 (.slice ga gn gc) rfl
  have c3 := HX3.out.cell 3 (.int .i64 m.mode) rfl
  have c4 := HX3.out.cell 4 (.bool m.banded) rfl
  have c5 := HX3.out.cell 5 (.int .i64 m.lo) rfl
  have c6 := HX3.out.cell 6 (.int .i64 m.hi) rfl
  have c7 := HX3.out.cell 7 (.int .i64 m.front) rfl
  have c8 := HX3.out.cell 8 (.int .i64 m.back) rfl
  have c9 := HX3.out.cell 9 (.int .i64 m.least) rfl
  have hsz3 : w.heap.size < w3.heap.size := HX3.out.size
  have hcs : ∃ cs, mdCells m sa sn sc ga gn gc = cs := ⟨_, rfl⟩
  obtain ⟨cs, hcs⟩ := hcs
  have HC1 : Hid (cs[1]? = some (.slice sa sn sc)) := by rw [← hcs]; rfl
  have HC2 : Hid (cs[2]? = some (.slice ga gn gc)) := by rw [← hcs]; rfl
  have HX5 : Hid (Bx w cs w3) := by rw [← hcs]; exact HX3.out
  clear hcs
  have HX4 : Hid (SX w cs (sM m t) w3.heap.size none 0 0 none 0 0 [] [] (w3.alloc (.cells (mdCells (sM m t) none 0 0 none 0 0) 25))) := SX.start HX5.out (sM m t)
  have HS0 : Hid (someS m 0 = (decide (0 < m.front) || decide (0 < m.back))) := someS_zero m
  clear HX3 HX5
  generalize hbs : w3.heap.size = bs at *
  by_cases hF : 0 < m.front
  · have hS : (decide (0 < m.front) || decide (0 < m.back)) = true := by simp [hF]
    rw [hS] at HS0
    clear hS
    go_wp2
    clear c0 c1 c2 c3 c4 c5 c6 c7 c8 c9
    go_loopw [11, 12] (fun o i wr => ∃ (k : Nat) (va : Option Addr) (vc : Nat), k ≤ sn ∧ i = .int .i64 k ∧ o = .bool (someS m k) ∧ SX w cs (sM m t) bs va k vc none 0 0 ((m.subst.map (· * t)).take k) [] wr) (fun _ i _ => sn - (intOf i).toNat)
    case atStart => exact ⟨0, none, 0, Nat.zero_le _, rfl, by rw [HS0.out], HX4.out⟩
    case round =>
      obtain ⟨k, va, vc, hk, rfl, rfl, hsx⟩ := hrel
      have HX : Hid (SX w cs (sM m t) bs va k vc none 0 0 ((m.subst.map (· * t)).take k) [] wr) := hsx
      clear hsx HX4 HS0
      by_cases hlt : k < sn
      · obtain ⟨b, off, rfl, hcs⟩ := HM.out.subst.cells (by omega)
        have hzk : m.subst[k]? = some (m.subst.getD k 0) := getD_some (by rw [HM.out.subst.length]; exact hlt)
        have hzm := getD_mem (zs := m.subst) (k := k) (by rw [HM.out.subst.length]; exact hlt)
        have hc0 := hcs k hlt
        have hzb := sub_le HQ.out hzm
        rw [HV.out] at hzb
        have HT : Hid ((m.subst.map (· * t)).take (k + 1) = (m.subst.map (· * t)).take k ++ [m.subst.getD k 0 * t]) := map_get _ _ _ _ hzk
        have HSk : Hid (someS m (k + 1) = (someS m k || (m.subst.getD k 0 != 0))) := someS_snoc m k _ hzk
        clear hcs hzk hzm
        generalize m.subst.getD k 0 = z at *
        have hmb := mul_bd (z := z) (t := t) (B := 1099511627776) (by omega) (by omega) (by omega) (by omega) (by omega)
        obtain ⟨hm1, hm2⟩ := hmb
        have hwp : IntKind.i64.wrap (z * t) = z * t := (IntWalk.i64_left _).trans (by unfold wrap64; omega)
        generalize someS m k = q at *
        have HC0 : Hid (w.cell? ⟨b, off + k, none⟩ = some (.int .i64 z)) := hc0
        clear hc0 hzb
        have hF : ∀ W, SX w cs (sM m t) bs va k vc none 0 0 ((m.subst.map (· * t)).take k) [] W → W.cell? ⟨bs, 1, none⟩ = some (.slice va k vc) ∧ W.cell? ⟨w.heap.size, 1, none⟩ = some (.slice (some ⟨b, off, none⟩) sn sc) ∧ W.cell? ⟨b, off + k, none⟩ = some (.int .i64 z) := fun W hW =>
          ⟨hW.cell 1 _ rfl, hW.bx.cell 1 _ HC1.out, by rw [hW.bx.low.cell (World.block_lt_of_cell? w _ HC0.out)]; exact HC0.out⟩
        have hJd : SX w cs (sM m t) bs va k vc none 0 0 ((m.subst.map (· * t)).take k) [] wr.drew := HX.out.drew
        obtain ⟨x1, x2, x3⟩ := hF _ hJd
        have x2w := (hF _ HX.out).2.1
        have x1o : ∀ o, (wr.alloc o).drew.cell? ⟨bs, 1, none⟩ = some (.slice va k vc) := fun o => (hF _ (HX.out.alloc o).drew).1
        have x2o : ∀ o, (wr.alloc o).drew.cell? ⟨w.heap.size, 1, none⟩ = some (.slice (some ⟨b, off, none⟩) sn sc) := fun o => (hF _ (HX.out.alloc o).drew).2.1
        have x3o : ∀ o, (wr.alloc o).drew.cell? ⟨b, off + k, none⟩ = some (.int .i64 z) := fun o => (hF _ (HX.out.alloc o).drew).2.2
        have HJd : Hid (SX w cs (sM m t) bs va k vc none 0 0 ((m.subst.map (· * t)).take k) [] wr.drew) := hJd
        have HJO : Hid (∀ W o, Hid (SX w cs (sM m t) bs va k vc none 0 0 ((m.subst.map (· * t)).take k) [] W) → (W.alloc o).ownsRow (bs + 1) 3 1 (.slice va k vc) k (intVals ((m.subst.map (· * t)).take k))) := fun W o hW => (hW.out.alloc o).su
        have HJS : Hid (∀ W o, Hid (SX w cs (sM m t) bs va k vc none 0 0 ((m.subst.map (· * t)).take k) [] W) → bs + 1 ≤ (W.alloc o).heap.size) := fun W o hW => lt_block (hW.out.alloc o).sb
        have HJE : Hid (∀ W o v' w4, Hid (SX w cs (sM m t) bs va k vc none 0 0 ((m.subst.map (· * t)).take k) [] W) → w4.ownsRow (bs + 1) 3 1 v' (k + 1) (intVals ((m.subst.map (· * t)).take k) ++ [.int .i64 (z * t)]) → (W.alloc o).grownBy w4 (Value.slice va k vc).ownBlock →
            w4.cell? ⟨bs, 1, none⟩ = some (.slice va k vc) ∧ w4.frozen? ⟨bs, 1, none⟩ = false ∧ w4.cell? ⟨w.heap.size, 1, none⟩ = some (.slice (some ⟨b, off, none⟩) sn sc) ∧ w4.cell? ⟨b, off + k, none⟩ = some (.int .i64 z) ∧ Hid (∃ va' vc', v' = .slice va' (k + 1) vc' ∧ SX w cs (sM m t) bs va' (k + 1) vc' none 0 0 ((m.subst.map (· * t)).take (k + 1)) [] (w4.setCell ⟨bs, 1, none⟩ v'))) := by
          intro W o v' w4 hW ho hg
          rw [HT.out]
          obtain ⟨q1, q2, va', vc', q3, q4⟩ := (hW.out.alloc o).addS ho hg
          have hlt2 := q4.lt
          have hbl : b < w.heap.size := World.block_lt_of_cell? w _ HC0.out
          have r1 := q4.bx.cell 1 _ HC1.out
          have r2 : (w4.setCell ⟨bs, 1, none⟩ v').cell? ⟨b, off + k, none⟩ = some (.int .i64 z) := by rw [q4.bx.low.cell (World.block_lt_of_cell? w _ HC0.out)]; exact HC0.out
          rw [World.cell?_of_block (w := w4) (Below.heap_setCell _ _ _ _ (by show w.heap.size ≠ bs; omega))] at r1
          rw [World.cell?_of_block (w := w4) (Below.heap_setCell _ _ _ _ (by show b ≠ bs; omega))] at r2
          exact ⟨q1, q2, r1, r2, va', vc', q3, q4⟩
        have hne1 : w.heap.size < bs := HX.out.lt
        have hne2 : b < bs := by have := World.block_lt_of_cell? w _ HC0.out; simp at this; omega
        clear hF hJd HT
        go_wp2_with fail
        go_region_law (first
          | (refine step_append_own rfl (.tmp 78) (.tmp 86) 22 rfl (bs + 1) 3 i3 _ 1 8 Try.underlying22 hi3 hz30 hz31 hz32 rfl (by decide) _ _ _ (by simp [Act.eval]) (HJO.out _ _ (by assumption)) ⟨_, 0, none⟩ 1 1 [.int .i64 (z * t)] (by simp [Act.eval]) rfl (cells_new _ [.int .i64 (z * t)] 3) (it_one _) (by unfold maxLen; omega) (by omega) (HJS.out _ _ (by assumption)) ?_
             intro v' w4 ho hg
             obtain ⟨k1, k2, k4, k5, k3⟩ := HJE.out wr.drew _ _ _ HJd ho hg
             obtain ⟨ao2, cap2, rfl⟩ := owned_shape ho
             clear ho hg))
        all_goals (
          have HK3 : Hid (SX w cs (sM m t) bs ao2 (k + 1) cap2 none 0 0 ((m.subst.map (· * t)).take (k + 1)) [] (w4.setCell ⟨bs, 1, none⟩ (.slice ao2 (k + 1) cap2))) := by
            obtain ⟨va', vc', q3, q4⟩ := k3.out
            cases q3
            exact q4
          clear k3 x1 x2 x3 x1o x2o x3o x2w HJO HJS HJE HJd HX
          cases q)
        all_goals (
          go_wp2
          go_roundw
          case rel => exact ⟨k + 1, ao2, cap2, by omega, by go_num, by rw [HSk.out]; rfl, HK3.out⟩
          case measure => simp [intOf]; omega)
      · have HT : Hid ((m.subst.map (· * t)).take k = m.subst.map (· * t)) := List.take_of_length_le (by rw [List.length_map, HM.out.subst.length]; omega)
        have HSa : Hid (someS m k = someG m 0) := by
          have := someS_all m k (by rw [HM.out.subst.length]; omega)
          have e := someG_zero m
          exact this.trans e.symm
        have hksn : k = sn := by omega
        subst hksn
        have HX6 : Hid (SX w cs (sM m t) bs va k vc none 0 0 (m.subst.map (· * t)) [] wr) := by
          have := HX.out
          rw [HT.out] at this
          exact this
        rw [HSa.out]
        have x2w := HX6.out.bx.cell 1 _ HC1.out
        clear HT HSa HX
        go_wp2
        clear x2w
        go_loopw [11, 13, 14] (fun o i _ wr => ∃ (j : Nat) (ua : Option Addr) (uc : Nat), j ≤ gn ∧ i = .int .i64 j ∧ o = .bool (someG m j) ∧ SX w cs (sM m t) bs va k vc ua j uc (m.subst.map (· * t)) ((m.gaps.map (mulG t)).take j) wr) (fun _ i _ _ => gn - (intOf i).toNat)
        case atStart => exact ⟨0, none, 0, Nat.zero_le _, rfl, rfl, HX6.out⟩
        case round =>
          clear HX6
          obtain ⟨j, ua, uc, hj, rfl, rfl, hsx⟩ := hrel
          have HX : Hid (SX w cs (sM m t) bs va k vc ua j uc (m.subst.map (· * t)) ((m.gaps.map (mulG t)).take j) wr) := hsx
          clear hsx
          by_cases hlt2 : j < gn
          · obtain ⟨g, hgk⟩ := get_lt (l := m.gaps) (k := j) (by rw [HM.out.gaps.length]; exact hlt2)
            obtain ⟨b, off, rfl, hcs⟩ := (HM.out.gaps.below HX.out.bx.low).cells (by omega)
            obtain ⟨d1, d2⟩ := hcs j g hgk
            have hgm := List.mem_of_getElem? hgk
            have hgb := HQ.out.gap g hgm
            have hgw := gap_le HQ.out hgm
            rw [HV.out] at hgw
            have HT : Hid ((m.gaps.map (mulG t)).take (j + 1) = (m.gaps.map (mulG t)).take j ++ [mulG t g]) := map_get _ _ _ _ hgk
            have HSk : Hid (someG m (j + 1) = (someG m j || decide (0 < g.1 + g.2))) := someG_snoc m j _ hgk
            clear hcs hgk hgm
            obtain ⟨a, x⟩ := g
            simp only at d1 d2 hgb hgw
            obtain ⟨⟨ha1, ha2⟩, hx1, hx2⟩ := hgb
            have hma := mul_bd (z := a) (t := t) (B := 1099511627776) (by omega) (by omega) (by omega) (by omega) (by omega)
            have hmx := mul_bd (z := x) (t := t) (B := 1099511627776) (by omega) (by omega) (by omega) (by omega) (by omega)
            obtain ⟨hma1, hma2⟩ := hma
            obtain ⟨hmx1, hmx2⟩ := hmx
            have hsum1 : 0 ≤ a + x := by omega
            have hsum2 : a + x ≤ 1099511627776 := by omega
            clear hgw
            generalize someG m j = q at *
            have x1 := HX.out.cell 2 (.slice ua j uc) rfl
            have x2 := HX.out.bx.cell 2 _ HC2.out
            have hbs : bs < wr.heap.size := lt_block HX.out.sb
            have hws : w.heap.size < wr.heap.size := HX.out.bx.size
            have hne1 : w.heap.size < bs := HX.out.lt
            have hbw : b < wr.heap.size := World.block_lt_of_cell? wr _ d1
            have HO : Hid (((wr.alloc (.cells #[.int .i64 a, .int .i64 x] 32)).alloc (.cells #[.int .i64 (a * t), .int .i64 (x * t)] 32)).ownsRow (bs + 1) 32 2 (.slice ua j uc) j (gapVals ((m.gaps.map (mulG t)).take j))) := ((HX.out.alloc _).alloc _).gp
            have HCN : Hid (∀ i u, [Value.int .i64 (a * t), .int .i64 (x * t)][i]? = some u → ((wr.alloc (.cells #[.int .i64 a, .int .i64 x] 32)).alloc (.cells #[.int .i64 (a * t), .int .i64 (x * t)] 32)).cell? ((⟨wr.heap.size + 1, 0, none⟩ : Addr).add i) = some u) := by
              intro i u hu
              have := cells_new (wr.alloc (.cells #[.int .i64 a, .int .i64 x] 32)) [.int .i64 (a * t), .int .i64 (x * t)] 32 i u hu
              rwa [show (wr.alloc (.cells #[.int .i64 a, .int .i64 x] 32)).heap.size = wr.heap.size + 1 by simp] at this
            have HSZ : Hid (bs + 1 ≤ ((wr.alloc (.cells #[.int .i64 a, .int .i64 x] 32)).alloc (.cells #[.int .i64 (a * t), .int .i64 (x * t)] 32)).heap.size) := by
              show _ ≤ _
              simp
              omega
            go_wp2_with (at_builtin; refine wpList_append_own _ rfl _ _ 23 rfl (bs + 1) 32 i32 (.agg #[.int .i64 0, .int .i64 0]) 2 16 Try.underlying23 hi32 hz320 hz321 hz322 rfl (by decide) (.slice ua j uc) j (gapVals ((m.gaps.map (mulG t)).take j)) rfl HO.out ⟨wr.heap.size + 1, 0, none⟩ 1 1 [.int .i64 (a * t), .int .i64 (x * t)] rfl rfl HCN.out (it_two _ _) (by unfold maxLen; omega) (by omega) HSZ.out ?_)
            intro v' w4 ho hg _
            obtain ⟨k1, k2, ua', uc', hv', hK⟩ := ((HX.out.alloc (.cells #[.int .i64 a, .int .i64 x] 32)).alloc (.cells #[.int .i64 (a * t), .int .i64 (x * t)] 32)).addG (g := mulG t (a, x)) ho hg
            subst hv'
            have hrow : some wr.heap.size ≠ (Value.slice ua j uc).ownBlock := fun e => by
              have := (HX.out.gp.lt _ e.symm).2
              omega
            have y0 : w4.cell? ⟨wr.heap.size, 0, none⟩ = some (.int .i64 a) := hg.cell (cell_alloc_old (cell_block (heap_alloc_new wr _) 0 _ rfl)) hrow
            have y1 : w4.cell? ⟨wr.heap.size, 1, none⟩ = some (.int .i64 x) := hg.cell (cell_alloc_old (cell_block (heap_alloc_new wr _) 1 _ rfl)) hrow
            have HK : Hid (SX w cs (sM m t) bs va k vc ua' (j + 1) uc' (m.subst.map (· * t)) ((m.gaps.map (mulG t)).take (j + 1)) (w4.setCell ⟨bs, 2, none⟩ (.slice ua' (j + 1) uc'))) := by
              show SX _ _ _ _ _ _ _ _ _ _ _ _ _
              rw [HT.out]
              exact hK
            clear hK ho hg HO HCN HSZ x1 x2 d1 d2 HX hrow
            cases q
            all_goals (
              go_wp2
              go_roundw
              case rel => exact ⟨j + 1, ua', uc', by omega, by go_num, by rw [HSk.out]; rfl, HK.out⟩
              case measure => simp [intOf]; omega)
          · have hjg : j = gn := by omega
            subst hjg
            have HT : Hid ((m.gaps.map (mulG t)).take j = m.gaps.map (mulG t)) := List.take_of_length_le (by rw [List.length_map, HM.out.gaps.length]; omega)
            have HSa : Hid (someG m j = someG m m.gaps.length) := someG_all m j (by rw [HM.out.gaps.length]; omega)
            have HX7 : Hid (SX w cs (sM m t) bs va k vc ua j uc (m.subst.map (· * t)) (m.gaps.map (mulG t)) wr) := by
              have := HX.out
              rw [HT.out] at this
              exact this
            have HMs : Hid (MdAt wr (sM m t) va k ua j) := ⟨ints_own HX7.out.su (by show (m.subst.map (· * t)).length = _; rw [List.length_map]; exact HM.out.subst.length) (by unfold maxLen; omega), gaps_own HX7.out.gp (by show (m.gaps.map (mulG t)).length = _; rw [List.length_map]; exact HM.out.gaps.length) (by unfold maxLen; omega)⟩
            rw [HSa.out]
            have x2w := HX7.out.bx.cell 2 _ HC2.out
            clear HT HSa HX
            have z0 := HX7.out.cell 0 (.int .i64 m.letters) rfl
            have z1 := HX7.out.cell 1 (.slice va k vc) rfl
            have z2 := HX7.out.cell 2 (.slice ua j uc) rfl
            have z3 := HX7.out.cell 3 (.int .i64 m.mode) rfl
            have z4 := HX7.out.cell 4 (.bool false) rfl
            have z5 := HX7.out.cell 5 (.int .i64 0) rfl
            have z6 := HX7.out.cell 6 (.int .i64 0) rfl
            have z7 := HX7.out.cell 7 (.int .i64 (m.front * t)) rfl
            have z8 := HX7.out.cell 8 (.int .i64 (m.back * t)) rfl
            have z9 := HX7.out.cell 9 (.int .i64 0) rfl
            go_wp2_with fail
            refine (widest_model (sM m t) va k vc ua j uc _ HMs.out).mono ?_
            intro e w5 hp
            obtain ⟨rfl, hb⟩ := widV_post hp
            clear hp
            have HX8 : Hid (SX w cs (sM m t) bs va k vc ua j uc (m.subst.map (· * t)) (m.gaps.map (mulG t)) w5) := HX7.out.next hb
            have HM8 : Hid (MdAt w5 (sM m t) va k ua j) := HMs.out.below hb
            clear hb HX7 HMs x2w z0 z1 z2 z3 z4 z5 z6 z7 z8 z9
            have z0 := HX8.out.cell 0 (.int .i64 m.letters) rfl
            have z1 := HX8.out.cell 1 (.slice va k vc) rfl
            have z2 := HX8.out.cell 2 (.slice ua j uc) rfl
            have z3 := HX8.out.cell 3 (.int .i64 m.mode) rfl
            have z4 := HX8.out.cell 4 (.bool false) rfl
            have z5 := HX8.out.cell 5 (.int .i64 0) rfl
            have z6 := HX8.out.cell 6 (.int .i64 0) rfl
            have z7 := HX8.out.cell 7 (.int .i64 (m.front * t)) rfl
            have z8 := HX8.out.cell 8 (.int .i64 (m.back * t)) rfl
            have z9 := HX8.out.cell 9 (.int .i64 0) rfl
            go_wp2_with fail
            refine (most_calls (sM m t) va k vc ua j uc _ HM8.out).mono ?_
            intro e w6 hp
            obtain ⟨rfl, hb⟩ := mostV_post hp
            clear hp
            have HL : Hid (Below w.heap.size w w6) := (HX8.out.next hb).bx.low
            clear hb HX8 HM8 z0 z1 z2 z3 z4 z5 z6 z7 z8 z9
            obtain ⟨h1, h2, h3⟩ := errV_yes HSR.out
            rw [h1, h2, h3]
            clear h1 h2 h3
            obtain ⟨g1, g2, g3⟩ := HSW.out
            rw [HV.out, HN.out] at g3
            rw [HV.out] at g1
            generalize wid (sM m t) = v5 at *
            generalize most v5 = v6 at *
            have g4 : ¬ n < v6 := by omega
            have hvt := mul_bd (z := v) (t := t) (B := 1099511627776) (by omega) (by omega) (by omega) (by omega) (by omega)
            obtain ⟨hvt1, hvt2⟩ := hvt
            generalize someG m m.gaps.length = q at *
            cases q
            · have g5 := g2 rfl
              subst g5
              clear g1 g2
              have g6 : ((1 : Int) == 1) = true := rfl
              go_wp2
              go_ret
              exact ⟨rfl, HL.out⟩
            · have g5 := g1 rfl
              have g6 : (v5 == v * t) = true := by rw [g5]; simp
              clear g1 g2 g5
              go_wp2
              go_ret
              exact ⟨rfl, HL.out⟩
  · have hS : (decide (0 < m.front) || decide (0 < m.back)) = decide (0 < m.back) := by simp [hF]
    rw [hS] at HS0
    clear hS
    have hFd : decide (0 < m.front) = false := by simpa using hF
    go_wp2
    clear c0 c1 c2 c3 c4 c5 c6 c7 c8 c9
    go_loopw [11, 12] (fun o i wr => ∃ (k : Nat) (va : Option Addr) (vc : Nat), k ≤ sn ∧ i = .int .i64 k ∧ o = .bool (someS m k) ∧ SX w cs (sM m t) bs va k vc none 0 0 ((m.subst.map (· * t)).take k) [] wr) (fun _ i _ => sn - (intOf i).toNat)
    case atStart => exact ⟨0, none, 0, Nat.zero_le _, rfl, by rw [HS0.out], HX4.out⟩
    case round =>
      obtain ⟨k, va, vc, hk, rfl, rfl, hsx⟩ := hrel
      have HX : Hid (SX w cs (sM m t) bs va k vc none 0 0 ((m.subst.map (· * t)).take k) [] wr) := hsx
      clear hsx HX4 HS0
      by_cases hlt : k < sn
      · obtain ⟨b, off, rfl, hcs⟩ := HM.out.subst.cells (by omega)
        have hzk : m.subst[k]? = some (m.subst.getD k 0) := getD_some (by rw [HM.out.subst.length]; exact hlt)
        have hzm := getD_mem (zs := m.subst) (k := k) (by rw [HM.out.subst.length]; exact hlt)
        have hc0 := hcs k hlt
        have hzb := sub_le HQ.out hzm
        rw [HV.out] at hzb
        have HT : Hid ((m.subst.map (· * t)).take (k + 1) = (m.subst.map (· * t)).take k ++ [m.subst.getD k 0 * t]) := map_get _ _ _ _ hzk
        have HSk : Hid (someS m (k + 1) = (someS m k || (m.subst.getD k 0 != 0))) := someS_snoc m k _ hzk
        clear hcs hzk hzm
        generalize m.subst.getD k 0 = z at *
        have hmb := mul_bd (z := z) (t := t) (B := 1099511627776) (by omega) (by omega) (by omega) (by omega) (by omega)
        obtain ⟨hm1, hm2⟩ := hmb
        have hwp : IntKind.i64.wrap (z * t) = z * t := (IntWalk.i64_left _).trans (by unfold wrap64; omega)
        generalize someS m k = q at *
        have HC0 : Hid (w.cell? ⟨b, off + k, none⟩ = some (.int .i64 z)) := hc0
        clear hc0 hzb
        have hF : ∀ W, SX w cs (sM m t) bs va k vc none 0 0 ((m.subst.map (· * t)).take k) [] W → W.cell? ⟨bs, 1, none⟩ = some (.slice va k vc) ∧ W.cell? ⟨w.heap.size, 1, none⟩ = some (.slice (some ⟨b, off, none⟩) sn sc) ∧ W.cell? ⟨b, off + k, none⟩ = some (.int .i64 z) := fun W hW =>
          ⟨hW.cell 1 _ rfl, hW.bx.cell 1 _ HC1.out, by rw [hW.bx.low.cell (World.block_lt_of_cell? w _ HC0.out)]; exact HC0.out⟩
        have hJd : SX w cs (sM m t) bs va k vc none 0 0 ((m.subst.map (· * t)).take k) [] wr.drew := HX.out.drew
        obtain ⟨x1, x2, x3⟩ := hF _ hJd
        have x2w := (hF _ HX.out).2.1
        have x1o : ∀ o, (wr.alloc o).drew.cell? ⟨bs, 1, none⟩ = some (.slice va k vc) := fun o => (hF _ (HX.out.alloc o).drew).1
        have x2o : ∀ o, (wr.alloc o).drew.cell? ⟨w.heap.size, 1, none⟩ = some (.slice (some ⟨b, off, none⟩) sn sc) := fun o => (hF _ (HX.out.alloc o).drew).2.1
        have x3o : ∀ o, (wr.alloc o).drew.cell? ⟨b, off + k, none⟩ = some (.int .i64 z) := fun o => (hF _ (HX.out.alloc o).drew).2.2
        have HJd : Hid (SX w cs (sM m t) bs va k vc none 0 0 ((m.subst.map (· * t)).take k) [] wr.drew) := hJd
        have HJO : Hid (∀ W o, Hid (SX w cs (sM m t) bs va k vc none 0 0 ((m.subst.map (· * t)).take k) [] W) → (W.alloc o).ownsRow (bs + 1) 3 1 (.slice va k vc) k (intVals ((m.subst.map (· * t)).take k))) := fun W o hW => (hW.out.alloc o).su
        have HJS : Hid (∀ W o, Hid (SX w cs (sM m t) bs va k vc none 0 0 ((m.subst.map (· * t)).take k) [] W) → bs + 1 ≤ (W.alloc o).heap.size) := fun W o hW => lt_block (hW.out.alloc o).sb
        have HJE : Hid (∀ W o v' w4, Hid (SX w cs (sM m t) bs va k vc none 0 0 ((m.subst.map (· * t)).take k) [] W) → w4.ownsRow (bs + 1) 3 1 v' (k + 1) (intVals ((m.subst.map (· * t)).take k) ++ [.int .i64 (z * t)]) → (W.alloc o).grownBy w4 (Value.slice va k vc).ownBlock →
            w4.cell? ⟨bs, 1, none⟩ = some (.slice va k vc) ∧ w4.frozen? ⟨bs, 1, none⟩ = false ∧ w4.cell? ⟨w.heap.size, 1, none⟩ = some (.slice (some ⟨b, off, none⟩) sn sc) ∧ w4.cell? ⟨b, off + k, none⟩ = some (.int .i64 z) ∧ Hid (∃ va' vc', v' = .slice va' (k + 1) vc' ∧ SX w cs (sM m t) bs va' (k + 1) vc' none 0 0 ((m.subst.map (· * t)).take (k + 1)) [] (w4.setCell ⟨bs, 1, none⟩ v'))) := by
          intro W o v' w4 hW ho hg
          rw [HT.out]
          obtain ⟨q1, q2, va', vc', q3, q4⟩ := (hW.out.alloc o).addS ho hg
          have hlt2 := q4.lt
          have hbl : b < w.heap.size := World.block_lt_of_cell? w _ HC0.out
          have r1 := q4.bx.cell 1 _ HC1.out
          have r2 : (w4.setCell ⟨bs, 1, none⟩ v').cell? ⟨b, off + k, none⟩ = some (.int .i64 z) := by rw [q4.bx.low.cell (World.block_lt_of_cell? w _ HC0.out)]; exact HC0.out
          rw [World.cell?_of_block (w := w4) (Below.heap_setCell _ _ _ _ (by show w.heap.size ≠ bs; omega))] at r1
          rw [World.cell?_of_block (w := w4) (Below.heap_setCell _ _ _ _ (by show b ≠ bs; omega))] at r2
          exact ⟨q1, q2, r1, r2, va', vc', q3, q4⟩
        have hne1 : w.heap.size < bs := HX.out.lt
        have hne2 : b < bs := by have := World.block_lt_of_cell? w _ HC0.out; simp at this; omega
        clear hF hJd HT
        go_wp2_with fail
        go_region_law (first
          | (refine step_append_own rfl (.tmp 78) (.tmp 86) 22 rfl (bs + 1) 3 i3 _ 1 8 Try.underlying22 hi3 hz30 hz31 hz32 rfl (by decide) _ _ _ (by simp [Act.eval]) (HJO.out _ _ (by assumption)) ⟨_, 0, none⟩ 1 1 [.int .i64 (z * t)] (by simp [Act.eval]) rfl (cells_new _ [.int .i64 (z * t)] 3) (it_one _) (by unfold maxLen; omega) (by omega) (HJS.out _ _ (by assumption)) ?_
             intro v' w4 ho hg
             obtain ⟨k1, k2, k4, k5, k3⟩ := HJE.out wr.drew _ _ _ HJd ho hg
             obtain ⟨ao2, cap2, rfl⟩ := owned_shape ho
             clear ho hg))
        all_goals (
          have HK3 : Hid (SX w cs (sM m t) bs ao2 (k + 1) cap2 none 0 0 ((m.subst.map (· * t)).take (k + 1)) [] (w4.setCell ⟨bs, 1, none⟩ (.slice ao2 (k + 1) cap2))) := by
            obtain ⟨va', vc', q3, q4⟩ := k3.out
            cases q3
            exact q4
          clear k3 x1 x2 x3 x1o x2o x3o x2w HJO HJS HJE HJd HX
          cases q)
        all_goals (
          go_wp2
          go_roundw
          case rel => exact ⟨k + 1, ao2, cap2, by omega, by go_num, by rw [HSk.out]; rfl, HK3.out⟩
          case measure => simp [intOf]; omega)
      · have HT : Hid ((m.subst.map (· * t)).take k = m.subst.map (· * t)) := List.take_of_length_le (by rw [List.length_map, HM.out.subst.length]; omega)
        have HSa : Hid (someS m k = someG m 0) := by
          have := someS_all m k (by rw [HM.out.subst.length]; omega)
          have e := someG_zero m
          exact this.trans e.symm
        have hksn : k = sn := by omega
        subst hksn
        have HX6 : Hid (SX w cs (sM m t) bs va k vc none 0 0 (m.subst.map (· * t)) [] wr) := by
          have := HX.out
          rw [HT.out] at this
          exact this
        rw [HSa.out]
        have x2w := HX6.out.bx.cell 1 _ HC1.out
        clear HT HSa HX
        go_wp2
        clear x2w
        go_loopw [11, 13, 14] (fun o i _ wr => ∃ (j : Nat) (ua : Option Addr) (uc : Nat), j ≤ gn ∧ i = .int .i64 j ∧ o = .bool (someG m j) ∧ SX w cs (sM m t) bs va k vc ua j uc (m.subst.map (· * t)) ((m.gaps.map (mulG t)).take j) wr) (fun _ i _ _ => gn - (intOf i).toNat)
        case atStart => exact ⟨0, none, 0, Nat.zero_le _, rfl, rfl, HX6.out⟩
        case round =>
          clear HX6
          obtain ⟨j, ua, uc, hj, rfl, rfl, hsx⟩ := hrel
          have HX : Hid (SX w cs (sM m t) bs va k vc ua j uc (m.subst.map (· * t)) ((m.gaps.map (mulG t)).take j) wr) := hsx
          clear hsx
          by_cases hlt2 : j < gn
          · obtain ⟨g, hgk⟩ := get_lt (l := m.gaps) (k := j) (by rw [HM.out.gaps.length]; exact hlt2)
            obtain ⟨b, off, rfl, hcs⟩ := (HM.out.gaps.below HX.out.bx.low).cells (by omega)
            obtain ⟨d1, d2⟩ := hcs j g hgk
            have hgm := List.mem_of_getElem? hgk
            have hgb := HQ.out.gap g hgm
            have hgw := gap_le HQ.out hgm
            rw [HV.out] at hgw
            have HT : Hid ((m.gaps.map (mulG t)).take (j + 1) = (m.gaps.map (mulG t)).take j ++ [mulG t g]) := map_get _ _ _ _ hgk
            have HSk : Hid (someG m (j + 1) = (someG m j || decide (0 < g.1 + g.2))) := someG_snoc m j _ hgk
            clear hcs hgk hgm
            obtain ⟨a, x⟩ := g
            simp only at d1 d2 hgb hgw
            obtain ⟨⟨ha1, ha2⟩, hx1, hx2⟩ := hgb
            have hma := mul_bd (z := a) (t := t) (B := 1099511627776) (by omega) (by omega) (by omega) (by omega) (by omega)
            have hmx := mul_bd (z := x) (t := t) (B := 1099511627776) (by omega) (by omega) (by omega) (by omega) (by omega)
            obtain ⟨hma1, hma2⟩ := hma
            obtain ⟨hmx1, hmx2⟩ := hmx
            have hsum1 : 0 ≤ a + x := by omega
            have hsum2 : a + x ≤ 1099511627776 := by omega
            clear hgw
            generalize someG m j = q at *
            have x1 := HX.out.cell 2 (.slice ua j uc) rfl
            have x2 := HX.out.bx.cell 2 _ HC2.out
            have hbs : bs < wr.heap.size := lt_block HX.out.sb
            have hws : w.heap.size < wr.heap.size := HX.out.bx.size
            have hne1 : w.heap.size < bs := HX.out.lt
            have hbw : b < wr.heap.size := World.block_lt_of_cell? wr _ d1
            have HO : Hid (((wr.alloc (.cells #[.int .i64 a, .int .i64 x] 32)).alloc (.cells #[.int .i64 (a * t), .int .i64 (x * t)] 32)).ownsRow (bs + 1) 32 2 (.slice ua j uc) j (gapVals ((m.gaps.map (mulG t)).take j))) := ((HX.out.alloc _).alloc _).gp
            have HCN : Hid (∀ i u, [Value.int .i64 (a * t), .int .i64 (x * t)][i]? = some u → ((wr.alloc (.cells #[.int .i64 a, .int .i64 x] 32)).alloc (.cells #[.int .i64 (a * t), .int .i64 (x * t)] 32)).cell? ((⟨wr.heap.size + 1, 0, none⟩ : Addr).add i) = some u) := by
              intro i u hu
              have := cells_new (wr.alloc (.cells #[.int .i64 a, .int .i64 x] 32)) [.int .i64 (a * t), .int .i64 (x * t)] 32 i u hu
              rwa [show (wr.alloc (.cells #[.int .i64 a, .int .i64 x] 32)).heap.size = wr.heap.size + 1 by simp] at this
            have HSZ : Hid (bs + 1 ≤ ((wr.alloc (.cells #[.int .i64 a, .int .i64 x] 32)).alloc (.cells #[.int .i64 (a * t), .int .i64 (x * t)] 32)).heap.size) := by
              show _ ≤ _
              simp
              omega
            go_wp2_with (at_builtin; refine wpList_append_own _ rfl _ _ 23 rfl (bs + 1) 32 i32 (.agg #[.int .i64 0, .int .i64 0]) 2 16 Try.underlying23 hi32 hz320 hz321 hz322 rfl (by decide) (.slice ua j uc) j (gapVals ((m.gaps.map (mulG t)).take j)) rfl HO.out ⟨wr.heap.size + 1, 0, none⟩ 1 1 [.int .i64 (a * t), .int .i64 (x * t)] rfl rfl HCN.out (it_two _ _) (by unfold maxLen; omega) (by omega) HSZ.out ?_)
            intro v' w4 ho hg _
            obtain ⟨k1, k2, ua', uc', hv', hK⟩ := ((HX.out.alloc (.cells #[.int .i64 a, .int .i64 x] 32)).alloc (.cells #[.int .i64 (a * t), .int .i64 (x * t)] 32)).addG (g := mulG t (a, x)) ho hg
            subst hv'
            have hrow : some wr.heap.size ≠ (Value.slice ua j uc).ownBlock := fun e => by
              have := (HX.out.gp.lt _ e.symm).2
              omega
            have y0 : w4.cell? ⟨wr.heap.size, 0, none⟩ = some (.int .i64 a) := hg.cell (cell_alloc_old (cell_block (heap_alloc_new wr _) 0 _ rfl)) hrow
            have y1 : w4.cell? ⟨wr.heap.size, 1, none⟩ = some (.int .i64 x) := hg.cell (cell_alloc_old (cell_block (heap_alloc_new wr _) 1 _ rfl)) hrow
            have HK : Hid (SX w cs (sM m t) bs va k vc ua' (j + 1) uc' (m.subst.map (· * t)) ((m.gaps.map (mulG t)).take (j + 1)) (w4.setCell ⟨bs, 2, none⟩ (.slice ua' (j + 1) uc'))) := by
              show SX _ _ _ _ _ _ _ _ _ _ _ _ _
              rw [HT.out]
              exact hK
            clear hK ho hg HO HCN HSZ x1 x2 d1 d2 HX hrow
            cases q
            all_goals (
              go_wp2
              go_roundw
              case rel => exact ⟨j + 1, ua', uc', by omega, by go_num, by rw [HSk.out]; rfl, HK.out⟩
              case measure => simp [intOf]; omega)
          · have hjg : j = gn := by omega
            subst hjg
            have HT : Hid ((m.gaps.map (mulG t)).take j = m.gaps.map (mulG t)) := List.take_of_length_le (by rw [List.length_map, HM.out.gaps.length]; omega)
            have HSa : Hid (someG m j = someG m m.gaps.length) := someG_all m j (by rw [HM.out.gaps.length]; omega)
            have HX7 : Hid (SX w cs (sM m t) bs va k vc ua j uc (m.subst.map (· * t)) (m.gaps.map (mulG t)) wr) := by
              have := HX.out
              rw [HT.out] at this
              exact this
            have HMs : Hid (MdAt wr (sM m t) va k ua j) := ⟨ints_own HX7.out.su (by show (m.subst.map (· * t)).length = _; rw [List.length_map]; exact HM.out.subst.length) (by unfold maxLen; omega), gaps_own HX7.out.gp (by show (m.gaps.map (mulG t)).length = _; rw [List.length_map]; exact HM.out.gaps.length) (by unfold maxLen; omega)⟩
            rw [HSa.out]
            have x2w := HX7.out.bx.cell 2 _ HC2.out
            clear HT HSa HX
            have z0 := HX7.out.cell 0 (.int .i64 m.letters) rfl
            have z1 := HX7.out.cell 1 (.slice va k vc) rfl
            have z2 := HX7.out.cell 2 (.slice ua j uc) rfl
            have z3 := HX7.out.cell 3 (.int .i64 m.mode) rfl
            have z4 := HX7.out.cell 4 (.bool false) rfl
            have z5 := HX7.out.cell 5 (.int .i64 0) rfl
            have z6 := HX7.out.cell 6 (.int .i64 0) rfl
            have z7 := HX7.out.cell 7 (.int .i64 (m.front * t)) rfl
            have z8 := HX7.out.cell 8 (.int .i64 (m.back * t)) rfl
            have z9 := HX7.out.cell 9 (.int .i64 0) rfl
            go_wp2_with fail
            refine (widest_model (sM m t) va k vc ua j uc _ HMs.out).mono ?_
            intro e w5 hp
            obtain ⟨rfl, hb⟩ := widV_post hp
            clear hp
            have HX8 : Hid (SX w cs (sM m t) bs va k vc ua j uc (m.subst.map (· * t)) (m.gaps.map (mulG t)) w5) := HX7.out.next hb
            have HM8 : Hid (MdAt w5 (sM m t) va k ua j) := HMs.out.below hb
            clear hb HX7 HMs x2w z0 z1 z2 z3 z4 z5 z6 z7 z8 z9
            have z0 := HX8.out.cell 0 (.int .i64 m.letters) rfl
            have z1 := HX8.out.cell 1 (.slice va k vc) rfl
            have z2 := HX8.out.cell 2 (.slice ua j uc) rfl
            have z3 := HX8.out.cell 3 (.int .i64 m.mode) rfl
            have z4 := HX8.out.cell 4 (.bool false) rfl
            have z5 := HX8.out.cell 5 (.int .i64 0) rfl
            have z6 := HX8.out.cell 6 (.int .i64 0) rfl
            have z7 := HX8.out.cell 7 (.int .i64 (m.front * t)) rfl
            have z8 := HX8.out.cell 8 (.int .i64 (m.back * t)) rfl
            have z9 := HX8.out.cell 9 (.int .i64 0) rfl
            go_wp2_with fail
            refine (most_calls (sM m t) va k vc ua j uc _ HM8.out).mono ?_
            intro e w6 hp
            obtain ⟨rfl, hb⟩ := mostV_post hp
            clear hp
            have HL : Hid (Below w.heap.size w w6) := (HX8.out.next hb).bx.low
            clear hb HX8 HM8 z0 z1 z2 z3 z4 z5 z6 z7 z8 z9
            obtain ⟨h1, h2, h3⟩ := errV_yes HSR.out
            rw [h1, h2, h3]
            clear h1 h2 h3
            obtain ⟨g1, g2, g3⟩ := HSW.out
            rw [HV.out, HN.out] at g3
            rw [HV.out] at g1
            generalize wid (sM m t) = v5 at *
            generalize most v5 = v6 at *
            have g4 : ¬ n < v6 := by omega
            have hvt := mul_bd (z := v) (t := t) (B := 1099511627776) (by omega) (by omega) (by omega) (by omega) (by omega)
            obtain ⟨hvt1, hvt2⟩ := hvt
            generalize someG m m.gaps.length = q at *
            cases q
            · have g5 := g2 rfl
              subst g5
              clear g1 g2
              have g6 : ((1 : Int) == 1) = true := rfl
              go_wp2
              go_ret
              exact ⟨rfl, HL.out⟩
            · have g5 := g1 rfl
              have g6 : (v5 == v * t) = true := by rw [g5]; simp
              clear g1 g2 g5
              go_wp2
              go_ret
              exact ⟨rfl, HL.out⟩

theorem scaled_walk (m : Md) (sa : Option Addr) (sn sc : Nat) (ga : Option Addr) (gn gc : Nat) (t : Int) (w : World) (h : MdIn w m sa sn ga gn) :
    Calls Try.prog 7 #[.agg (mdCells m sa sn sc ga gn gc), .int .i64 t] w fun e w' => e = .returned (.bool true) ∧ Below w.heap.size w w' := by
  by_cases hx : rightM m = false ∨ t < 1 ∨ 1000 < t ∨ 1099511627776 < wid m
  · exact scaled_out m sa sn sc ga gn gc t w h hx
  · have hr : rightM m = true := by
      cases hr : rightM m
      · exact absurd (Or.inl hr) hx
      · rfl
    exact scaled_in m sa sn sc ga gn gc t w h hr (by omega) (by omega) (by omega)

namespace boundScaled
open Go.ChangeShapes Go.WideShapes Go.ChangeAt Go.RowKit
open Go.ChangeMaps (open_string shut_string)
theorem own : ownKnob Try.prog.godebug = none := by kernel_rfl
theorem laidOut : laidOutB Try.prog = true := by kernel_rfl
set_option maxRecDepth 100000 in
theorem lifted (os : Os) (started : os.Started) (H : Type) (enc : TypeId × Value → H) :
    ReturnsInHanded {} Try.checked os 7 .any (Rows.boundScaledSpec.pre6 enc Try.prog Try.f7 Rows.boundScaledRow.domain false) (Rows.boundScaledSpec.post enc Try.prog Try.f7 false true false false) := by
  refine returnsInHanded_of_change_sized (C := Try.checked) own started (by kernel_rfl) Try.func7
    (ChangeSpec.witness6 (enc := enc) (C := Try.checked) false ⟨#[], #[.agg #[.int .i64 0, .slice none 0 0, .slice none 0 0, .int .i64 0, .bool false, .int .i64 0, .int .i64 0, .int .i64 0, .int .i64 0, .int .i64 0], .int .i64 0], []⟩ 8 (by kernel_rfl) (by kernel_rfl) (by kernel_rfl) (by kernel_rfl)) ?_
  intro W base args ds gs before hval0 hW _ hsz0 _
  have hval : ∀ (j : Nat) t v, Try.f7.params[j]? = some t → args[j]? = some v → Value.okWide Try.prog W .any base t v := hval0
  have hsz : (DataW.weightsEach Try.prog (Try.f7.params.toList ++ Rows.boundScaledSpec.plain.varTypes Try.prog) (ds ++ gs)).all (· ≤ reachBytes) = true := hsz0
  have hW' := hW
  obtain ⟨p, q, hA0, hV, rfl, hfz, hnd⟩ := hW
  have hA : DataW.TrodAll enc Try.prog W 0 (fun _ => true) true Try.f7.params.toList args.toList ds p := hA0
  rw [Try.params7] at hA hval hsz
  obtain ⟨v0, vs0, d0, ds0, p0, q0, hargs, rfl, rfl, h0, r0⟩ := trodAll_cons hA
  obtain ⟨v1, vs1, d1, ds1, p1, q1, rfl, rfl, rfl, h1, r1⟩ := trodAll_cons r0
  obtain ⟨rfl, rfl, rfl⟩ := trodAll_nil r1
  obtain rfl : args = #[v0, v1] := by cases args; simp_all
  obtain ⟨rfl, rfl⟩ := trodVars_none hV
  have hw : ∀ (j : Nat) (t : TypeId) (d : DataW H), ([25, 3] ++ Rows.boundScaledSpec.plain.varTypes Try.prog)[j]? = some t → ([d0, d1] ++ [])[j]? = some d → ∀ n ∈ d.weights Try.prog t, n ≤ reachBytes := fun j t d ht hd n hn =>
    of_decide_eq_true (List.all_eq_true.1 hsz _ (DataW.weights_mem_each ht hd n hn))
  obtain ⟨cs0, rfl, hcs0⟩ := okWide_struct Try.underlying25 (hval 0 25 v0 rfl rfl)
  have lt0 : ∀ x ∈ p0, x.block < W.heap.size := by obtain ⟨m, hm⟩ := h0; exact DataW.trod_lt m _ _ _ hm
  obtain ⟨m0, sa0, sn0, sc0, ga0, gn0, gc0, e0, in0⟩ := md_in hcs0 h0 (hw 0 25 d0 rfl rfl)
  subst e0
  obtain ⟨a1, rfl, rfl, rfl, w1⟩ := open_int Try.underlying3 (hval 1 3 v1 rfl rfl) h1
  clear hA0 hval0
  refine (scaled_walk m0 sa0 sn0 sc0 ga0 gn0 gc0 a1 W in0).mono fun e W' ⟨he, bel⟩ => ?_
  subst he
  exact ⟨_, rfl, _, _, _, [], _, [], hW', trodAll_mk1 (shut_bool Try.underlying4 _), (trodAll_cons_mk (Below.trod laidOut (by kernel_rfl) (of_decide_eq_true (by kernel_rfl)) h0 bel lt0) (trodAll_cons_mk (shut_int Try.underlying3 w1) trodAll_mk0)), rfl, bel.frame _, fun h => by cases h⟩
end boundScaled

theorem boundScaled_holds : Rows.BoundScaledSaid :=
  OpenClaim.holds_of_wide 7 Try.f7 rfl rfl rfl rfl rfl rfl rfl ⟨rfl, rfl, rfl, rfl, rfl⟩ rfl rfl rfl rfl rfl (by kernel_rfl) Try.func7 (by kernel_rfl)
    (of_decide_eq_true (by kernel_rfl)) (by unfold Func.isWrapper; first | (rw [if_pos (by decide +kernel)]; kernel_rfl) | (rw [if_neg (by decide +kernel)]; exact ⟨rfl, rfl⟩))
    (fun os started H enc _ => boundScaled.lifted os started H enc)

end Go.Proofs.Ytaicppkhdfiokaa
