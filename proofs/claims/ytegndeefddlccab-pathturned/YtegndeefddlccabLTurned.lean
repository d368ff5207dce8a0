/-
  Proved: whatever model, sequences, place and column are handed in, PathTurned answers true: a global path with one column more, or one left out, is not legal; no condition but that what is handed in can be read.
-/
import Derived.Test.YtegndeefddlccabPxA
import Derived.Test.YtegndeefddlccabPzA
import Derived.Test.YtegndeefddlccabPxO
import Derived.Test.YtegndeefddlccabRows
import Derived.ProofKit
import Derived.OpenShut
import Derived.ShutString
import Derived.ChangeOld
import Derived.Below
import Derived.BigQuiet
import Derived.Deep.RegionHeld3
namespace Go.Proofs.Ytegndeefddlccab
open Go.RowKit

structure B1 (w : World) (mc : Array Value) (wr : World) : Prop where
  low : Below w.heap.size w wr
  box : wr.heap[w.heap.size]? = some (.cells mc 25 (0, 0))
theorem B1.next {w : World} {mc : Array Value} {wr w2 : World} (h : B1 w mc wr) (hb : Below wr.heap.size wr w2) : B1 w mc w2 :=
  ⟨h.low.trans (hb.mono h.low.size), (Fr.of_below (O := fun _ => False) hb).heap h.box (fun h => h)⟩
theorem ints_in {H : Type} {enc : TypeId × Value → H} {W : World} {v : Value} {d : DataW H} {p : List MemPlace} (h : DataW.Trod enc Try.prog W 0 (fun _ => true) true 22 v d p) (hw : ∀ n ∈ d.weights Try.prog 22, n ≤ reachBytes) :
    ∃ ao len cap l, v.cells.toList = [.slice ao len cap] ∧ len ≤ 17592186044416 ∧ IntsAt W ao len l := by
  obtain ⟨fuel, hf⟩ := h
  exact open_int22 hf hw
theorem sl_to (s : ByteArray) (k : Nat) (h : k ≤ s.size) (W : World) : (Instr.slice 9 (.string s) none (some (.int .i64 (k : Int))) none).run Try.prog W = .ok (.string (s.extract 0 k)) W := by
  go_simp
theorem sl_from (s : ByteArray) (k : Nat) (h : k ≤ s.size) (W : World) : (Instr.slice 9 (.string s) (some (.int .i64 (k : Int))) none none).run Try.prog W = .ok (.string (s.extract k s.size)) W := by
  go_simp
theorem cat_run (a b : ByteArray) (h : a.size + b.size ≤ 1000000000) (W : World) : (Op.stringOp .add a b).run Try.prog W = .ok (.string (a ++ b)) W := run_string_add_sum W _ _ (by omega)
set_option maxRecDepth 20000 in
set_option maxHeartbeats 2000000 in
theorem turned_walk (m : Md) (sa : Option Addr) (sn sc : Nat) (ga : Option Addr) (gn gc : Nat) (xa : Option Addr) (xn xc : Nat) (xs : List Int) (ya : Option Addr) (yn yc : Nat) (ys : List Int) (at_ column : Int) (w : World) (h : MdIn w m sa sn ga gn) (hx : IntsAt w xa xn xs) (_hxl : xn ≤ 17592186044416) (hy : IntsAt w ya yn ys) (_hyl : yn ≤ 17592186044416) :
    Calls Try.prog 4 #[.agg (mdCells m sa sn sc ga gn gc), .slice xa xn xc, .slice ya yn yc, .int .i64 at_, .int .i64 column] w fun e w' => e = .returned (.bool true) ∧ Below w.heap.size w w' := by
  have HM : Hid (MdAt w m sa sn ga gn) := h.at'
  have HX : Hid (IntsAt w xa xn xs) := hx
  have HY : Hid (IntsAt w ya yn ys) := hy
  have hxn := hx.length
  have hyn := hy.length
  clear h hx hy
  have HB0 : Hid (B1 w (mdCells m sa sn sc ga gn gc) (w.alloc (.cells (mdCells m sa sn sc ga gn gc) 25))) := ⟨bl1 _ _, hp_at rfl⟩
  rw [show mdCells m sa sn sc ga gn gc = #[.int .i64 m.letters, .slice sa sn sc, .slice ga gn gc, .int .i64 m.mode, .bool m.banded, .int .i64 m.lo, .int .i64 m.hi, .int .i64 m.front, .int .i64 m.back, .int .i64 m.least] from rfl]
  go_enter Try.func4, Try.ntmps4
  go_wp2_with fail
  refine (awake_calls _).mono ?_
  rintro e w1 ⟨rfl, hb1⟩
  have HB1 : Hid (B1 w (mdCells m sa sn sc ga gn gc) w1) := HB0.out.next hb1
  clear hb1 HB0
  have b0 : w1.cell? ⟨w.heap.size, 0, none⟩ = some (.int .i64 m.letters) := cell_block HB1.out.box 0 _ rfl
  have b1 : w1.cell? ⟨w.heap.size, 1, none⟩ = some (.slice sa sn sc) := cell_block HB1.out.box 1 _ rfl
  have b2 : w1.cell? ⟨w.heap.size, 2, none⟩ = some (.slice ga gn gc) := cell_block HB1.out.box 2 _ rfl
  have b3 : w1.cell? ⟨w.heap.size, 3, none⟩ = some (.int .i64 m.mode) := cell_block HB1.out.box 3 _ rfl
  have b4 : w1.cell? ⟨w.heap.size, 4, none⟩ = some (.bool m.banded) := cell_block HB1.out.box 4 _ rfl
  have b5 : w1.cell? ⟨w.heap.size, 5, none⟩ = some (.int .i64 m.lo) := cell_block HB1.out.box 5 _ rfl
  have b6 : w1.cell? ⟨w.heap.size, 6, none⟩ = some (.int .i64 m.hi) := cell_block HB1.out.box 6 _ rfl
  have b7 : w1.cell? ⟨w.heap.size, 7, none⟩ = some (.int .i64 m.front) := cell_block HB1.out.box 7 _ rfl
  have b8 : w1.cell? ⟨w.heap.size, 8, none⟩ = some (.int .i64 m.back) := cell_block HB1.out.box 8 _ rfl
  have b9 : w1.cell? ⟨w.heap.size, 9, none⟩ = some (.int .i64 m.least) := cell_block HB1.out.box 9 _ rfl
  go_wp2_with fail
  refine (best_calls m sa sn sc ga gn gc xa xn xc ya yn yc xs ys _ (HM.out.below HB1.out.low) (HX.out.below HB1.out.low) (HY.out.below HB1.out.low)).mono ?_
  rintro e w2 ⟨rfl, hb2⟩
  have HB2 : Hid (B1 w (mdCells m sa sn sc ga gn gc) w2) := HB1.out.next hb2
  clear hb2 HB1
  clear b0 b1 b2 b3 b4 b5 b6 b7 b8 b9
  have b0 : w2.cell? ⟨w.heap.size, 0, none⟩ = some (.int .i64 m.letters) := cell_block HB2.out.box 0 _ rfl
  have b1 : w2.cell? ⟨w.heap.size, 1, none⟩ = some (.slice sa sn sc) := cell_block HB2.out.box 1 _ rfl
  have b2 : w2.cell? ⟨w.heap.size, 2, none⟩ = some (.slice ga gn gc) := cell_block HB2.out.box 2 _ rfl
  have b3 : w2.cell? ⟨w.heap.size, 3, none⟩ = some (.int .i64 m.mode) := cell_block HB2.out.box 3 _ rfl
  have b4 : w2.cell? ⟨w.heap.size, 4, none⟩ = some (.bool m.banded) := cell_block HB2.out.box 4 _ rfl
  have b5 : w2.cell? ⟨w.heap.size, 5, none⟩ = some (.int .i64 m.lo) := cell_block HB2.out.box 5 _ rfl
  have b6 : w2.cell? ⟨w.heap.size, 6, none⟩ = some (.int .i64 m.hi) := cell_block HB2.out.box 6 _ rfl
  have b7 : w2.cell? ⟨w.heap.size, 7, none⟩ = some (.int .i64 m.front) := cell_block HB2.out.box 7 _ rfl
  have b8 : w2.cell? ⟨w.heap.size, 8, none⟩ = some (.int .i64 m.back) := cell_block HB2.out.box 8 _ rfl
  have b9 : w2.cell? ⟨w.heap.size, 9, none⟩ = some (.int .i64 m.least) := cell_block HB2.out.box 9 _ rfl
  obtain ⟨bv, hbv⟩ : ∃ bv, bsV m xs ys = bv := ⟨_, rfl⟩
  obtain ⟨be, hbe⟩ : ∃ be, bsE m xs ys = be := ⟨_, rfl⟩
  have HOK : Hid (be = 0 → m.mode = 1 → refE m xs ys = 0 ∧ ∃ cols, bv.2 = ⟨0, 0, cols⟩ ∧ cols.length ≤ 9 ∧ allowsB m xn yn ⟨0, 0, cols⟩ = true) := fun h1 h2 => by
    have := best_ok (m := m) (xs := xs) (ys := ys) (hbe.trans h1) h2
    rw [hbv, hxn, hyn] at this
    exact this
  rw [hbv, hbe]
  clear hbv hbe
  rw [show fnC bv = #[.int .i64 bv.1, .int .i64 bv.2.i, .int .i64 bv.2.j, .string (bs bv.2.cols)] from rfl]
  have hw2lt : w.heap.size < w2.heap.size := (Array.getElem?_eq_some_iff.1 HB2.out.box).1
  by_cases hbe0 : be = 0
  · subst hbe0
    by_cases hmo : m.mode = 1
    · obtain ⟨href, cols, hcols, hcl, hal⟩ := HOK.out rfl hmo
      have HMO : Hid (m.mode = 1) := hmo
      have hmb : (m.mode != 1) = false := by simp [hmo]
      clear HOK hmo
      rw [hcols]
      have hsz : (bs cols).size = cols.length := bs_len cols
      have hbk : (bs cols).data.toList = cols := bs_back cols
      obtain ⟨s, hs⟩ : ∃ s, bs cols = s := ⟨_, rfl⟩
      simp only [hs]
      rw [hs] at hsz hbk
      clear hs hcols
      have hs9 : s.size ≤ 9 := by omega
      by_cases ha1 : at_ < 0
      · go_wp2
        go_ret
        exact ⟨rfl, below_al HB2.out.low _⟩
      by_cases ha2 : (s.size : Int) < at_
      · go_wp2
        go_ret
        exact ⟨rfl, below_al HB2.out.low _⟩
      by_cases hc1 : column < 0
      · go_wp2
        go_ret
        exact ⟨rfl, below_al HB2.out.low _⟩
      by_cases hc2 : 2 < column
      · go_wp2
        go_ret
        exact ⟨rfl, below_al HB2.out.low _⟩
      obtain ⟨an, rfl⟩ := Int.eq_ofNat_of_zero_le (show 0 ≤ at_ by omega)
      obtain ⟨cn, rfl⟩ := Int.eq_ofNat_of_zero_le (show 0 ≤ column by omega)
      have han : an ≤ s.size := by omega
      have CL : Hid (∀ (t : ByteArray) (W : World), Below w.heap.size w W → t.size ≤ 100 → Calls Try.prog 12 #[.agg #[.int .i64 m.letters, .slice sa sn sc, .slice ga gn gc, .int .i64 m.mode, .bool m.banded, .int .i64 m.lo, .int .i64 m.hi, .int .i64 m.front, .int .i64 m.back, .int .i64 m.least], .slice xa xn xc, .slice ya yn yc, .agg #[.int .i64 0, .int .i64 0, .string t]] W fun e w' => e = .returned (.tuple #[.bool (allowsB m xn yn ⟨0, 0, t.data.toList⟩), .int .i64 0]) ∧ Below W.heap.size W w') := fun t W hb ht => by
        refine (legal_calls m sa sn sc ga gn gc xa xn xc ya yn yc xs ys 0 0 t W (HM.out.below hb) (HX.out.below hb) (HY.out.below hb) (by unfold maxLen; omega)).mono ?_
        rintro e w' ⟨rfl, hb'⟩
        rw [href, hxn, hyn]
        exact ⟨by simp, hb'⟩
      have HT1 : Hid (∀ c : UInt8, 1 ≤ dnB c + ovB c → allowsB m xn yn ⟨0, 0, (s.data.toList.take an ++ [c]) ++ s.data.toList.drop an⟩ = false) := fun c hc => by rw [hbk]; exact turned_more HMO.out hal an c hc
      have HT2 : Hid (an < s.size → allowsB m xn yn ⟨0, 0, s.data.toList.take an ++ s.data.toList.drop (an + 1)⟩ = false) := fun hh => by rw [hbk]; exact turned_less HMO.out hal an (by omega)
      have HW3 : Hid (B1 w (mdCells m sa sn sc ga gn gc) (w2.alloc (.cells #[.int .i64 bv.1, .int .i64 0, .int .i64 0, .string s] 34))) := HB2.out.next (bl1 _ _)
      clear hal href hbk hsz hcl
      have hcn : cn = 0 ∨ cn = 1 ∨ cn = 2 := by omega
      rcases hcn with rfl | rfl | rfl
      · obtain ⟨u1, hu1⟩ : ∃ u1, s.extract 0 an = u1 := ⟨_, rfl⟩
        obtain ⟨u3, hu3⟩ : ∃ u3, s.extract an s.size = u3 := ⟨_, rfl⟩
        have hl1 : u1.data.toList = s.data.toList.take an := by rw [← hu1]; exact ex_take s an
        have hl3 : u3.data.toList = s.data.toList.drop an := by rw [← hu3]; exact ex_drop s an
        have hz1 : u1.size ≤ 9 := by rw [← ba_size, hl1, List.length_take, ba_size]; omega
        have hz3 : u3.size ≤ 9 := by rw [← ba_size, hl3, List.length_drop, ba_size]; omega
        have hsl1 : ∀ W, (Instr.slice 9 (.string s) none (some (.int .i64 (an : Int))) none).run Try.prog W = .ok (.string u1) W := fun W => by rw [← hu1]; exact sl_to s an han W
        have hsl3 : ∀ W, (Instr.slice 9 (.string s) (some (.int .i64 (an : Int))) none none).run Try.prog W = .ok (.string u3) W := fun W => by rw [← hu3]; exact sl_from s an han W
        have hsl2 : ∀ W, (Instr.slice 9 (.string { data := #[77, 68, 73] }) (some (.int .i64 0)) (some (.int .i64 1)) none).run Try.prog W = .ok (.string { data := #[77] }) W := fun W => by
          go_simp
          rfl
        have hz2 : ({ data := #[77] } : ByteArray).size = 1 := rfl
        obtain ⟨u12, hu12⟩ : ∃ u12, u1 ++ ({ data := #[77] } : ByteArray) = u12 := ⟨_, rfl⟩
        have hz12 : u12.size = u1.size + 1 := by rw [← hu12, ByteArray.size_append, hz2]
        have hc1 : ∀ W, (Op.stringOp .add u1 ({ data := #[77] } : ByteArray)).run Try.prog W = .ok (.string u12) W := fun W => by rw [← hu12]; exact cat_run _ _ (by omega) W
        obtain ⟨u, hu⟩ : ∃ u, u12 ++ u3 = u := ⟨_, rfl⟩
        have hzu : u.size ≤ 19 := by rw [← hu, ByteArray.size_append]; omega
        have hc2 : ∀ W, (Op.stringOp .add u12 u3).run Try.prog W = .ok (.string u) W := fun W => by rw [← hu]; exact cat_run _ _ (by omega) W
        have HU : Hid (u.data.toList = (s.data.toList.take an ++ [77]) ++ s.data.toList.drop an) := by
          show _ = _
          rw [← hu, app_list, ← hu12, app_list, hl1, hl3]
        clear hu1 hu3 hl1 hl3 hu12 hu
        go_wp2_with fail
        go_quiet (fail)
        have HW4 : Hid (B1 w (mdCells m sa sn sc ga gn gc) ((w2.alloc (.cells #[.int .i64 bv.1, .int .i64 0, .int .i64 0, .string s] 34)).drewN nq)) := ⟨below_drewN HW3.out.low nq, HW3.out.box⟩
        go_wp2_with fail
        refine (CL.out u _ HW4.out.low (by omega)).mono ?_
        rintro e w5 ⟨rfl, hb5⟩
        rw [HU.out, HT1.out 77 (by decide)]
        have HW5 : Hid (B1 w (mdCells m sa sn sc ga gn gc) w5) := HW4.out.next hb5
        clear hb5 HW4 HU hsl1 hsl2 hsl3 hc1 hc2
        by_cases hlt : (an : Int) < (s.size : Int)
        · obtain ⟨v1, hv1⟩ : ∃ v1, s.extract 0 an = v1 := ⟨_, rfl⟩
          obtain ⟨v3, hv3⟩ : ∃ v3, s.extract (an + 1) s.size = v3 := ⟨_, rfl⟩
          have hl1 : v1.data.toList = s.data.toList.take an := by rw [← hv1]; exact ex_take s an
          have hl3 : v3.data.toList = s.data.toList.drop (an + 1) := by rw [← hv3]; exact ex_drop s (an + 1)
          have hz1 : v1.size ≤ 9 := by rw [← ba_size, hl1, List.length_take, ba_size]; omega
          have hz3 : v3.size ≤ 9 := by rw [← ba_size, hl3, List.length_drop, ba_size]; omega
          have hsl1 : ∀ W, (Instr.slice 9 (.string s) none (some (.int .i64 (an : Int))) none).run Try.prog W = .ok (.string v1) W := fun W => by rw [← hv1]; exact sl_to s an han W
          have hsl3 : ∀ W, (Instr.slice 9 (.string s) (some (.int .i64 ((an : Int) + 1))) none none).run Try.prog W = .ok (.string v3) W := fun W => by rw [← hv3]; exact sl_from s (an + 1) (by omega) W
          have hsl3b : ∀ W, (Instr.slice 9 (.string s) (some (.int .i64 (IntKind.i64.wrap ((an : Int) + 1)))) none none).run Try.prog W = .ok (.string v3) W := fun W => by rw [show IntKind.i64.wrap ((an : Int) + 1) = (an : Int) + 1 from (IntWalk.i64_left _).trans (by unfold wrap64; omega)]; exact hsl3 W
          obtain ⟨v, hv⟩ : ∃ v, v1 ++ v3 = v := ⟨_, rfl⟩
          have hzv : v.size ≤ 19 := by rw [← hv, ByteArray.size_append]; omega
          have hc1 : ∀ W, (Op.stringOp .add v1 v3).run Try.prog W = .ok (.string v) W := fun W => by rw [← hv]; exact cat_run _ _ (by omega) W
          have HV : Hid (v.data.toList = s.data.toList.take an ++ s.data.toList.drop (an + 1)) := by
            show _ = _
            rw [← hv, app_list, hl1, hl3]
          have HF : Hid (allowsB m xn yn ⟨0, 0, v.data.toList⟩ = false) := by
            show _ = _
            rw [HV.out]
            exact HT2.out (by omega)
          have CL2 : Hid (Calls Try.prog 12 #[.agg #[.int .i64 m.letters, .slice sa sn sc, .slice ga gn gc, .int .i64 m.mode, .bool m.banded, .int .i64 m.lo, .int .i64 m.hi, .int .i64 m.front, .int .i64 m.back, .int .i64 m.least], .slice xa xn xc, .slice ya yn yc, .agg #[.int .i64 0, .int .i64 0, .string v]] w5.drew fun e w' => e = .returned (.tuple #[.bool false, .int .i64 0]) ∧ Below w5.drew.heap.size w5.drew w') := by rw [← HF.out]; exact CL.out v _ HW5.out.low.drew (by omega)
          clear hv1 hv3 hl1 hl3 hv HV HF
          have b0 : w5.cell? ⟨w.heap.size, 0, none⟩ = some (.int .i64 m.letters) := cell_block HW5.out.box 0 _ rfl
          have b1 : w5.cell? ⟨w.heap.size, 1, none⟩ = some (.slice sa sn sc) := cell_block HW5.out.box 1 _ rfl
          have b2 : w5.cell? ⟨w.heap.size, 2, none⟩ = some (.slice ga gn gc) := cell_block HW5.out.box 2 _ rfl
          have b3 : w5.cell? ⟨w.heap.size, 3, none⟩ = some (.int .i64 m.mode) := cell_block HW5.out.box 3 _ rfl
          have b4 : w5.cell? ⟨w.heap.size, 4, none⟩ = some (.bool m.banded) := cell_block HW5.out.box 4 _ rfl
          have b5 : w5.cell? ⟨w.heap.size, 5, none⟩ = some (.int .i64 m.lo) := cell_block HW5.out.box 5 _ rfl
          have b6 : w5.cell? ⟨w.heap.size, 6, none⟩ = some (.int .i64 m.hi) := cell_block HW5.out.box 6 _ rfl
          have b7 : w5.cell? ⟨w.heap.size, 7, none⟩ = some (.int .i64 m.front) := cell_block HW5.out.box 7 _ rfl
          have b8 : w5.cell? ⟨w.heap.size, 8, none⟩ = some (.int .i64 m.back) := cell_block HW5.out.box 8 _ rfl
          have b9 : w5.cell? ⟨w.heap.size, 9, none⟩ = some (.int .i64 m.least) := cell_block HW5.out.box 9 _ rfl
          have hSb : ∀ (w6 : World), Below w5.drew.heap.size w5.drew w6 → (w6.cell? ⟨w.heap.size, 0, none⟩ = some (.int .i64 m.letters) ∧ w6.cell? ⟨w.heap.size, 1, none⟩ = some (.slice sa sn sc) ∧ w6.cell? ⟨w.heap.size, 2, none⟩ = some (.slice ga gn gc) ∧ w6.cell? ⟨w.heap.size, 3, none⟩ = some (.int .i64 m.mode) ∧ w6.cell? ⟨w.heap.size, 4, none⟩ = some (.bool m.banded) ∧ w6.cell? ⟨w.heap.size, 5, none⟩ = some (.int .i64 m.lo) ∧ w6.cell? ⟨w.heap.size, 6, none⟩ = some (.int .i64 m.hi) ∧ w6.cell? ⟨w.heap.size, 7, none⟩ = some (.int .i64 m.front) ∧ w6.cell? ⟨w.heap.size, 8, none⟩ = some (.int .i64 m.back) ∧ w6.cell? ⟨w.heap.size, 9, none⟩ = some (.int .i64 m.least)) := fun w6 hb6 => by
            have hq := (B1.next (wr := w5.drew) ⟨HW5.out.low.drew, HW5.out.box⟩ hb6).box
            exact ⟨cell_block hq 0 _ rfl, cell_block hq 1 _ rfl, cell_block hq 2 _ rfl, cell_block hq 3 _ rfl, cell_block hq 4 _ rfl, cell_block hq 5 _ rfl, cell_block hq 6 _ rfl, cell_block hq 7 _ rfl, cell_block hq 8 _ rfl, cell_block hq 9 _ rfl⟩
          go_wp2_with fail
          go_region_held3 (fun W => W.cell? ⟨w.heap.size, 0, none⟩ = some (.int .i64 m.letters) ∧ W.cell? ⟨w.heap.size, 1, none⟩ = some (.slice sa sn sc) ∧ W.cell? ⟨w.heap.size, 2, none⟩ = some (.slice ga gn gc) ∧ W.cell? ⟨w.heap.size, 3, none⟩ = some (.int .i64 m.mode) ∧ W.cell? ⟨w.heap.size, 4, none⟩ = some (.bool m.banded) ∧ W.cell? ⟨w.heap.size, 5, none⟩ = some (.int .i64 m.lo) ∧ W.cell? ⟨w.heap.size, 6, none⟩ = some (.int .i64 m.hi) ∧ W.cell? ⟨w.heap.size, 7, none⟩ = some (.int .i64 m.front) ∧ W.cell? ⟨w.heap.size, 8, none⟩ = some (.int .i64 m.back) ∧ W.cell? ⟨w.heap.size, 9, none⟩ = some (.int .i64 m.least)) (first | with_reducible assumption | exact ⟨by assumption, by assumption, by assumption, by assumption, by assumption, by assumption, by assumption, by assumption, by assumption, by assumption⟩ | exact hSb _ (by assumption)) ((go_at_call 12; with_reducible refine CL2.out.mono ?_; rintro e w6 ⟨rfl, hb6⟩))
          go_wp2
          go_ret
          exact ⟨rfl, HW5.out.low.drew.trans (hb6.mono HW5.out.low.drew.size)⟩
        · have hltb : decide ((an : Int) < (s.size : Int)) = false := decide_eq_false hlt
          go_wp2
          go_ret
          exact ⟨rfl, HW5.out.low⟩
      · obtain ⟨u1, hu1⟩ : ∃ u1, s.extract 0 an = u1 := ⟨_, rfl⟩
        obtain ⟨u3, hu3⟩ : ∃ u3, s.extract an s.size = u3 := ⟨_, rfl⟩
        have hl1 : u1.data.toList = s.data.toList.take an := by rw [← hu1]; exact ex_take s an
        have hl3 : u3.data.toList = s.data.toList.drop an := by rw [← hu3]; exact ex_drop s an
        have hz1 : u1.size ≤ 9 := by rw [← ba_size, hl1, List.length_take, ba_size]; omega
        have hz3 : u3.size ≤ 9 := by rw [← ba_size, hl3, List.length_drop, ba_size]; omega
        have hsl1 : ∀ W, (Instr.slice 9 (.string s) none (some (.int .i64 (an : Int))) none).run Try.prog W = .ok (.string u1) W := fun W => by rw [← hu1]; exact sl_to s an han W
        have hsl3 : ∀ W, (Instr.slice 9 (.string s) (some (.int .i64 (an : Int))) none none).run Try.prog W = .ok (.string u3) W := fun W => by rw [← hu3]; exact sl_from s an han W
        have hsl2 : ∀ W, (Instr.slice 9 (.string { data := #[77, 68, 73] }) (some (.int .i64 1)) (some (.int .i64 2)) none).run Try.prog W = .ok (.string { data := #[68] }) W := fun W => by
          go_simp
          rfl
        have hz2 : ({ data := #[68] } : ByteArray).size = 1 := rfl
        obtain ⟨u12, hu12⟩ : ∃ u12, u1 ++ ({ data := #[68] } : ByteArray) = u12 := ⟨_, rfl⟩
        have hz12 : u12.size = u1.size + 1 := by rw [← hu12, ByteArray.size_append, hz2]
        have hc1 : ∀ W, (Op.stringOp .add u1 ({ data := #[68] } : ByteArray)).run Try.prog W = .ok (.string u12) W := fun W => by rw [← hu12]; exact cat_run _ _ (by omega) W
        obtain ⟨u, hu⟩ : ∃ u, u12 ++ u3 = u := ⟨_, rfl⟩
        have hzu : u.size ≤ 19 := by rw [← hu, ByteArray.size_append]; omega
        have hc2 : ∀ W, (Op.stringOp .add u12 u3).run Try.prog W = .ok (.string u) W := fun W => by rw [← hu]; exact cat_run _ _ (by omega) W
        have HU : Hid (u.data.toList = (s.data.toList.take an ++ [68]) ++ s.data.toList.drop an) := by
          show _ = _
          rw [← hu, app_list, ← hu12, app_list, hl1, hl3]
        clear hu1 hu3 hl1 hl3 hu12 hu
        go_wp2_with fail
        go_quiet (fail)
        have HW4 : Hid (B1 w (mdCells m sa sn sc ga gn gc) ((w2.alloc (.cells #[.int .i64 bv.1, .int .i64 0, .int .i64 0, .string s] 34)).drewN nq)) := ⟨below_drewN HW3.out.low nq, HW3.out.box⟩
        go_wp2_with fail
        refine (CL.out u _ HW4.out.low (by omega)).mono ?_
        rintro e w5 ⟨rfl, hb5⟩
        rw [HU.out, HT1.out 68 (by decide)]
        have HW5 : Hid (B1 w (mdCells m sa sn sc ga gn gc) w5) := HW4.out.next hb5
        clear hb5 HW4 HU hsl1 hsl2 hsl3 hc1 hc2
        by_cases hlt : (an : Int) < (s.size : Int)
        · obtain ⟨v1, hv1⟩ : ∃ v1, s.extract 0 an = v1 := ⟨_, rfl⟩
          obtain ⟨v3, hv3⟩ : ∃ v3, s.extract (an + 1) s.size = v3 := ⟨_, rfl⟩
          have hl1 : v1.data.toList = s.data.toList.take an := by rw [← hv1]; exact ex_take s an
          have hl3 : v3.data.toList = s.data.toList.drop (an + 1) := by rw [← hv3]; exact ex_drop s (an + 1)
          have hz1 : v1.size ≤ 9 := by rw [← ba_size, hl1, List.length_take, ba_size]; omega
          have hz3 : v3.size ≤ 9 := by rw [← ba_size, hl3, List.length_drop, ba_size]; omega
          have hsl1 : ∀ W, (Instr.slice 9 (.string s) none (some (.int .i64 (an : Int))) none).run Try.prog W = .ok (.string v1) W := fun W => by rw [← hv1]; exact sl_to s an han W
          have hsl3 : ∀ W, (Instr.slice 9 (.string s) (some (.int .i64 ((an : Int) + 1))) none none).run Try.prog W = .ok (.string v3) W := fun W => by rw [← hv3]; exact sl_from s (an + 1) (by omega) W
          have hsl3b : ∀ W, (Instr.slice 9 (.string s) (some (.int .i64 (IntKind.i64.wrap ((an : Int) + 1)))) none none).run Try.prog W = .ok (.string v3) W := fun W => by rw [show IntKind.i64.wrap ((an : Int) + 1) = (an : Int) + 1 from (IntWalk.i64_left _).trans (by unfold wrap64; omega)]; exact hsl3 W
          obtain ⟨v, hv⟩ : ∃ v, v1 ++ v3 = v := ⟨_, rfl⟩
          have hzv : v.size ≤ 19 := by rw [← hv, ByteArray.size_append]; omega
          have hc1 : ∀ W, (Op.stringOp .add v1 v3).run Try.prog W = .ok (.string v) W := fun W => by rw [← hv]; exact cat_run _ _ (by omega) W
          have HV : Hid (v.data.toList = s.data.toList.take an ++ s.data.toList.drop (an + 1)) := by
            show _ = _
            rw [← hv, app_list, hl1, hl3]
          have HF : Hid (allowsB m xn yn ⟨0, 0, v.data.toList⟩ = false) := by
            show _ = _
            rw [HV.out]
            exact HT2.out (by omega)
          have CL2 : Hid (Calls Try.prog 12 #[.agg #[.int .i64 m.letters, .slice sa sn sc, .slice ga gn gc, .int .i64 m.mode, .bool m.banded, .int .i64 m.lo, .int .i64 m.hi, .int .i64 m.front, .int .i64 m.back, .int .i64 m.least], .slice xa xn xc, .slice ya yn yc, .agg #[.int .i64 0, .int .i64 0, .string v]] w5.drew fun e w' => e = .returned (.tuple #[.bool false, .int .i64 0]) ∧ Below w5.drew.heap.size w5.drew w') := by rw [← HF.out]; exact CL.out v _ HW5.out.low.drew (by omega)
          clear hv1 hv3 hl1 hl3 hv HV HF
          have b0 : w5.cell? ⟨w.heap.size, 0, none⟩ = some (.int .i64 m.letters) := cell_block HW5.out.box 0 _ rfl
          have b1 : w5.cell? ⟨w.heap.size, 1, none⟩ = some (.slice sa sn sc) := cell_block HW5.out.box 1 _ rfl
          have b2 : w5.cell? ⟨w.heap.size, 2, none⟩ = some (.slice ga gn gc) := cell_block HW5.out.box 2 _ rfl
          have b3 : w5.cell? ⟨w.heap.size, 3, none⟩ = some (.int .i64 m.mode) := cell_block HW5.out.box 3 _ rfl
          have b4 : w5.cell? ⟨w.heap.size, 4, none⟩ = some (.bool m.banded) := cell_block HW5.out.box 4 _ rfl
          have b5 : w5.cell? ⟨w.heap.size, 5, none⟩ = some (.int .i64 m.lo) := cell_block HW5.out.box 5 _ rfl
          have b6 : w5.cell? ⟨w.heap.size, 6, none⟩ = some (.int .i64 m.hi) := cell_block HW5.out.box 6 _ rfl
          have b7 : w5.cell? ⟨w.heap.size, 7, none⟩ = some (.int .i64 m.front) := cell_block HW5.out.box 7 _ rfl
          have b8 : w5.cell? ⟨w.heap.size, 8, none⟩ = some (.int .i64 m.back) := cell_block HW5.out.box 8 _ rfl
          have b9 : w5.cell? ⟨w.heap.size, 9, none⟩ = some (.int .i64 m.least) := cell_block HW5.out.box 9 _ rfl
          have hSb : ∀ (w6 : World), Below w5.drew.heap.size w5.drew w6 → (w6.cell? ⟨w.heap.size, 0, none⟩ = some (.int .i64 m.letters) ∧ w6.cell? ⟨w.heap.size, 1, none⟩ = some (.slice sa sn sc) ∧ w6.cell? ⟨w.heap.size, 2, none⟩ = some (.slice ga gn gc) ∧ w6.cell? ⟨w.heap.size, 3, none⟩ = some (.int .i64 m.mode) ∧ w6.cell? ⟨w.heap.size, 4, none⟩ = some (.bool m.banded) ∧ w6.cell? ⟨w.heap.size, 5, none⟩ = some (.int .i64 m.lo) ∧ w6.cell? ⟨w.heap.size, 6, none⟩ = some (.int .i64 m.hi) ∧ w6.cell? ⟨w.heap.size, 7, none⟩ = some (.int .i64 m.front) ∧ w6.cell? ⟨w.heap.size, 8, none⟩ = some (.int .i64 m.back) ∧ w6.cell? ⟨w.heap.size, 9, none⟩ = some (.int .i64 m.least)) := fun w6 hb6 => by
            have hq := (B1.next (wr := w5.drew) ⟨HW5.out.low.drew, HW5.out.box⟩ hb6).box
            exact ⟨cell_block hq 0 _ rfl, cell_block hq 1 _ rfl, cell_block hq 2 _ rfl, cell_block hq 3 _ rfl, cell_block hq 4 _ rfl, cell_block hq 5 _ rfl, cell_block hq 6 _ rfl, cell_block hq 7 _ rfl, cell_block hq 8 _ rfl, cell_block hq 9 _ rfl⟩
          go_wp2_with fail
          go_region_held3 (fun W => W.cell? ⟨w.heap.size, 0, none⟩ = some (.int .i64 m.letters) ∧ W.cell? ⟨w.heap.size, 1, none⟩ = some (.slice sa sn sc) ∧ W.cell? ⟨w.heap.size, 2, none⟩ = some (.slice ga gn gc) ∧ W.cell? ⟨w.heap.size, 3, none⟩ = some (.int .i64 m.mode) ∧ W.cell? ⟨w.heap.size, 4, none⟩ = some (.bool m.banded) ∧ W.cell? ⟨w.heap.size, 5, none⟩ = some (.int .i64 m.lo) ∧ W.cell? ⟨w.heap.size, 6, none⟩ = some (.int .i64 m.hi) ∧ W.cell? ⟨w.heap.size, 7, none⟩ = some (.int .i64 m.front) ∧ W.cell? ⟨w.heap.size, 8, none⟩ = some (.int .i64 m.back) ∧ W.cell? ⟨w.heap.size, 9, none⟩ = some (.int .i64 m.least)) (first | with_reducible assumption | exact ⟨by assumption, by assumption, by assumption, by assumption, by assumption, by assumption, by assumption, by assumption, by assumption, by assumption⟩ | exact hSb _ (by assumption)) ((go_at_call 12; with_reducible refine CL2.out.mono ?_; rintro e w6 ⟨rfl, hb6⟩))
          go_wp2
          go_ret
          exact ⟨rfl, HW5.out.low.drew.trans (hb6.mono HW5.out.low.drew.size)⟩
        · have hltb : decide ((an : Int) < (s.size : Int)) = false := decide_eq_false hlt
          go_wp2
          go_ret
          exact ⟨rfl, HW5.out.low⟩
      · obtain ⟨u1, hu1⟩ : ∃ u1, s.extract 0 an = u1 := ⟨_, rfl⟩
        obtain ⟨u3, hu3⟩ : ∃ u3, s.extract an s.size = u3 := ⟨_, rfl⟩
        have hl1 : u1.data.toList = s.data.toList.take an := by rw [← hu1]; exact ex_take s an
        have hl3 : u3.data.toList = s.data.toList.drop an := by rw [← hu3]; exact ex_drop s an
        have hz1 : u1.size ≤ 9 := by rw [← ba_size, hl1, List.length_take, ba_size]; omega
        have hz3 : u3.size ≤ 9 := by rw [← ba_size, hl3, List.length_drop, ba_size]; omega
        have hsl1 : ∀ W, (Instr.slice 9 (.string s) none (some (.int .i64 (an : Int))) none).run Try.prog W = .ok (.string u1) W := fun W => by rw [← hu1]; exact sl_to s an han W
        have hsl3 : ∀ W, (Instr.slice 9 (.string s) (some (.int .i64 (an : Int))) none none).run Try.prog W = .ok (.string u3) W := fun W => by rw [← hu3]; exact sl_from s an han W
        have hsl2 : ∀ W, (Instr.slice 9 (.string { data := #[77, 68, 73] }) (some (.int .i64 2)) (some (.int .i64 3)) none).run Try.prog W = .ok (.string { data := #[73] }) W := fun W => by
          go_simp
          rfl
        have hz2 : ({ data := #[73] } : ByteArray).size = 1 := rfl
        obtain ⟨u12, hu12⟩ : ∃ u12, u1 ++ ({ data := #[73] } : ByteArray) = u12 := ⟨_, rfl⟩
        have hz12 : u12.size = u1.size + 1 := by rw [← hu12, ByteArray.size_append, hz2]
        have hc1 : ∀ W, (Op.stringOp .add u1 ({ data := #[73] } : ByteArray)).run Try.prog W = .ok (.string u12) W := fun W => by rw [← hu12]; exact cat_run _ _ (by omega) W
        obtain ⟨u, hu⟩ : ∃ u, u12 ++ u3 = u := ⟨_, rfl⟩
        have hzu : u.size ≤ 19 := by rw [← hu, ByteArray.size_append]; omega
        have hc2 : ∀ W, (Op.stringOp .add u12 u3).run Try.prog W = .ok (.string u) W := fun W => by rw [← hu]; exact cat_run _ _ (by omega) W
        have HU : Hid (u.data.toList = (s.data.toList.take an ++ [73]) ++ s.data.toList.drop an) := by
          show _ = _
          rw [← hu, app_list, ← hu12, app_list, hl1, hl3]
        clear hu1 hu3 hl1 hl3 hu12 hu
        go_wp2_with fail
        go_quiet (fail)
        have HW4 : Hid (B1 w (mdCells m sa sn sc ga gn gc) ((w2.alloc (.cells #[.int .i64 bv.1, .int .i64 0, .int .i64 0, .string s] 34)).drewN nq)) := ⟨below_drewN HW3.out.low nq, HW3.out.box⟩
        go_wp2_with fail
        refine (CL.out u _ HW4.out.low (by omega)).mono ?_
        rintro e w5 ⟨rfl, hb5⟩
        rw [HU.out, HT1.out 73 (by decide)]
        have HW5 : Hid (B1 w (mdCells m sa sn sc ga gn gc) w5) := HW4.out.next hb5
        clear hb5 HW4 HU hsl1 hsl2 hsl3 hc1 hc2
        by_cases hlt : (an : Int) < (s.size : Int)
        · obtain ⟨v1, hv1⟩ : ∃ v1, s.extract 0 an = v1 := ⟨_, rfl⟩
          obtain ⟨v3, hv3⟩ : ∃ v3, s.extract (an + 1) s.size = v3 := ⟨_, rfl⟩
          have hl1 : v1.data.toList = s.data.toList.take an := by rw [← hv1]; exact ex_take s an
          have hl3 : v3.data.toList = s.data.toList.drop (an + 1) := by rw [← hv3]; exact ex_drop s (an + 1)
          have hz1 : v1.size ≤ 9 := by rw [← ba_size, hl1, List.length_take, ba_size]; omega
          have hz3 : v3.size ≤ 9 := by rw [← ba_size, hl3, List.length_drop, ba_size]; omega
          have hsl1 : ∀ W, (Instr.slice 9 (.string s) none (some (.int .i64 (an : Int))) none).run Try.prog W = .ok (.string v1) W := fun W => by rw [← hv1]; exact sl_to s an han W
          have hsl3 : ∀ W, (Instr.slice 9 (.string s) (some (.int .i64 ((an : Int) + 1))) none none).run Try.prog W = .ok (.string v3) W := fun W => by rw [← hv3]; exact sl_from s (an + 1) (by omega) W
          have hsl3b : ∀ W, (Instr.slice 9 (.string s) (some (.int .i64 (IntKind.i64.wrap ((an : Int) + 1)))) none none).run Try.prog W = .ok (.string v3) W := fun W => by rw [show IntKind.i64.wrap ((an : Int) + 1) = (an : Int) + 1 from (IntWalk.i64_left _).trans (by unfold wrap64; omega)]; exact hsl3 W
          obtain ⟨v, hv⟩ : ∃ v, v1 ++ v3 = v := ⟨_, rfl⟩
          have hzv : v.size ≤ 19 := by rw [← hv, ByteArray.size_append]; omega
          have hc1 : ∀ W, (Op.stringOp .add v1 v3).run Try.prog W = .ok (.string v) W := fun W => by rw [← hv]; exact cat_run _ _ (by omega) W
          have HV : Hid (v.data.toList = s.data.toList.take an ++ s.data.toList.drop (an + 1)) := by
            show _ = _
            rw [← hv, app_list, hl1, hl3]
          have HF : Hid (allowsB m xn yn ⟨0, 0, v.data.toList⟩ = false) := by
            show _ = _
            rw [HV.out]
            exact HT2.out (by omega)
          have CL2 : Hid (Calls Try.prog 12 #[.agg #[.int .i64 m.letters, .slice sa sn sc, .slice ga gn gc, .int .i64 m.mode, .bool m.banded, .int .i64 m.lo, .int .i64 m.hi, .int .i64 m.front, .int .i64 m.back, .int .i64 m.least], .slice xa xn xc, .slice ya yn yc, .agg #[.int .i64 0, .int .i64 0, .string v]] w5.drew fun e w' => e = .returned (.tuple #[.bool false, .int .i64 0]) ∧ Below w5.drew.heap.size w5.drew w') := by rw [← HF.out]; exact CL.out v _ HW5.out.low.drew (by omega)
          clear hv1 hv3 hl1 hl3 hv HV HF
          have b0 : w5.cell? ⟨w.heap.size, 0, none⟩ = some (.int .i64 m.letters) := cell_block HW5.out.box 0 _ rfl
          have b1 : w5.cell? ⟨w.heap.size, 1, none⟩ = some (.slice sa sn sc) := cell_block HW5.out.box 1 _ rfl
          have b2 : w5.cell? ⟨w.heap.size, 2, none⟩ = some (.slice ga gn gc) := cell_block HW5.out.box 2 _ rfl
          have b3 : w5.cell? ⟨w.heap.size, 3, none⟩ = some (.int .i64 m.mode) := cell_block HW5.out.box 3 _ rfl
          have b4 : w5.cell? ⟨w.heap.size, 4, none⟩ = some (.bool m.banded) := cell_block HW5.out.box 4 _ rfl
          have b5 : w5.cell? ⟨w.heap.size, 5, none⟩ = some (.int .i64 m.lo) := cell_block HW5.out.box 5 _ rfl
          have b6 : w5.cell? ⟨w.heap.size, 6, none⟩ = some (.int .i64 m.hi) := cell_block HW5.out.box 6 _ rfl
          have b7 : w5.cell? ⟨w.heap.size, 7, none⟩ = some (.int .i64 m.front) := cell_block HW5.out.box 7 _ rfl
          have b8 : w5.cell? ⟨w.heap.size, 8, none⟩ = some (.int .i64 m.back) := cell_block HW5.out.box 8 _ rfl
          have b9 : w5.cell? ⟨w.heap.size, 9, none⟩ = some (.int .i64 m.least) := cell_block HW5.out.box 9 _ rfl
          have hSb : ∀ (w6 : World), Below w5.drew.heap.size w5.drew w6 → (w6.cell? ⟨w.heap.size, 0, none⟩ = some (.int .i64 m.letters) ∧ w6.cell? ⟨w.heap.size, 1, none⟩ = some (.slice sa sn sc) ∧ w6.cell? ⟨w.heap.size, 2, none⟩ = some (.slice ga gn gc) ∧ w6.cell? ⟨w.heap.size, 3, none⟩ = some (.int .i64 m.mode) ∧ w6.cell? ⟨w.heap.size, 4, none⟩ = some (.bool m.banded) ∧ w6.cell? ⟨w.heap.size, 5, none⟩ = some (.int .i64 m.lo) ∧ w6.cell? ⟨w.heap.size, 6, none⟩ = some (.int .i64 m.hi) ∧ w6.cell? ⟨w.heap.size, 7, none⟩ = some (.int .i64 m.front) ∧ w6.cell? ⟨w.heap.size, 8, none⟩ = some (.int .i64 m.back) ∧ w6.cell? ⟨w.heap.size, 9, none⟩ = some (.int .i64 m.least)) := fun w6 hb6 => by
            have hq := (B1.next (wr := w5.drew) ⟨HW5.out.low.drew, HW5.out.box⟩ hb6).box
            exact ⟨cell_block hq 0 _ rfl, cell_block hq 1 _ rfl, cell_block hq 2 _ rfl, cell_block hq 3 _ rfl, cell_block hq 4 _ rfl, cell_block hq 5 _ rfl, cell_block hq 6 _ rfl, cell_block hq 7 _ rfl, cell_block hq 8 _ rfl, cell_block hq 9 _ rfl⟩
          go_wp2_with fail
          go_region_held3 (fun W => W.cell? ⟨w.heap.size, 0, none⟩ = some (.int .i64 m.letters) ∧ W.cell? ⟨w.heap.size, 1, none⟩ = some (.slice sa sn sc) ∧ W.cell? ⟨w.heap.size, 2, none⟩ = some (.slice ga gn gc) ∧ W.cell? ⟨w.heap.size, 3, none⟩ = some (.int .i64 m.mode) ∧ W.cell? ⟨w.heap.size, 4, none⟩ = some (.bool m.banded) ∧ W.cell? ⟨w.heap.size, 5, none⟩ = some (.int .i64 m.lo) ∧ W.cell? ⟨w.heap.size, 6, none⟩ = some (.int .i64 m.hi) ∧ W.cell? ⟨w.heap.size, 7, none⟩ = some (.int .i64 m.front) ∧ W.cell? ⟨w.heap.size, 8, none⟩ = some (.int .i64 m.back) ∧ W.cell? ⟨w.heap.size, 9, none⟩ = some (.int .i64 m.least)) (first | with_reducible assumption | exact ⟨by assumption, by assumption, by assumption, by assumption, by assumption, by assumption, by assumption, by assumption, by assumption, by assumption⟩ | exact hSb _ (by assumption)) ((go_at_call 12; with_reducible refine CL2.out.mono ?_; rintro e w6 ⟨rfl, hb6⟩))
          go_wp2
          go_ret
          exact ⟨rfl, HW5.out.low.drew.trans (hb6.mono HW5.out.low.drew.size)⟩
        · have hltb : decide ((an : Int) < (s.size : Int)) = false := decide_eq_false hlt
          go_wp2
          go_ret
          exact ⟨rfl, HW5.out.low⟩
    · have hmb : (m.mode != 1) = true := by simpa using hmo
      go_wp2
      go_ret
      exact ⟨rfl, below_al HB2.out.low _⟩
  · have hbb : (be != 0) = true := by simpa using hbe0
    go_wp2
    go_ret
    exact ⟨rfl, below_al HB2.out.low _⟩


namespace pathTurned
open Go.ChangeShapes Go.WideShapes Go.ChangeAt Go.RowKit
open Go.ChangeMaps (open_string shut_string)
theorem own : ownKnob Try.prog.godebug = none := by kernel_rfl
theorem laidOut : laidOutB Try.prog = true := by kernel_rfl
set_option maxRecDepth 100000 in
theorem lifted (os : Os) (started : os.Started) (H : Type) (enc : TypeId × Value → H) :
    ReturnsInHanded {} Try.checked os 4 .any (Rows.pathTurnedSpec.pre6 enc Try.prog Try.f4 Rows.pathTurnedRow.domain false) (Rows.pathTurnedSpec.post enc Try.prog Try.f4 false true false false) := by
  refine returnsInHanded_of_change_sized (C := Try.checked) own started (by kernel_rfl) Try.func4
    (ChangeSpec.witness6 (enc := enc) (C := Try.checked) false ⟨#[], #[.agg #[.int .i64 0, .slice none 0 0, .slice none 0 0, .int .i64 0, .bool false, .int .i64 0, .int .i64 0, .int .i64 0, .int .i64 0, .int .i64 0], .slice none 0 0, .slice none 0 0, .int .i64 0, .int .i64 0], []⟩ 8 (by kernel_rfl) (by kernel_rfl) (by kernel_rfl) (by kernel_rfl)) ?_
  intro W base args ds gs before hval0 hW _ hsz0 _
  have hval : ∀ (j : Nat) t v, Try.f4.params[j]? = some t → args[j]? = some v → Value.okWide Try.prog W .any base t v := hval0
  have hsz : (DataW.weightsEach Try.prog (Try.f4.params.toList ++ Rows.pathTurnedSpec.plain.varTypes Try.prog) (ds ++ gs)).all (· ≤ reachBytes) = true := hsz0
  have hW' := hW
  obtain ⟨p, q, hA0, hV, rfl, hfz, hnd⟩ := hW
  have hA : DataW.TrodAll enc Try.prog W 0 (fun _ => true) true Try.f4.params.toList args.toList ds p := hA0
  rw [Try.params4] at hA hval hsz
  obtain ⟨v0, vs0, d0, ds0, p0, q0, hargs, rfl, rfl, h0, r0⟩ := trodAll_cons hA
  obtain ⟨v1, vs1, d1, ds1, p1, q1, rfl, rfl, rfl, h1, r1⟩ := trodAll_cons r0
  obtain ⟨v2, vs2, d2, ds2, p2, q2, rfl, rfl, rfl, h2, r2⟩ := trodAll_cons r1
  obtain ⟨v3, vs3, d3, ds3, p3, q3, rfl, rfl, rfl, h3, r3⟩ := trodAll_cons r2
  obtain ⟨v4, vs4, d4, ds4, p4, q4, rfl, rfl, rfl, h4, r4⟩ := trodAll_cons r3
  obtain ⟨rfl, rfl, rfl⟩ := trodAll_nil r4
  obtain rfl : args = #[v0, v1, v2, v3, v4] := by cases args; simp_all
  obtain ⟨rfl, rfl⟩ := trodVars_none hV
  have hw : ∀ (j : Nat) (t : TypeId) (d : DataW H), ([25, 22, 22, 3, 3] ++ Rows.pathTurnedSpec.plain.varTypes Try.prog)[j]? = some t → ([d0, d1, d2, d3, d4] ++ [])[j]? = some d → ∀ n ∈ d.weights Try.prog t, n ≤ reachBytes := fun j t d ht hd n hn =>
    of_decide_eq_true (List.all_eq_true.1 hsz _ (DataW.weights_mem_each ht hd n hn))
  obtain ⟨cs0, rfl, hcs0⟩ := okWide_struct Try.underlying25 (hval 0 25 v0 rfl rfl)
  have lt0 : ∀ x ∈ p0, x.block < W.heap.size := by obtain ⟨m, hm⟩ := h0; exact DataW.trod_lt m _ _ _ hm
  obtain ⟨m0, sa0, sn0, sc0, ga0, gn0, gc0, e0, in0⟩ := md_in hcs0 h0 (hw 0 25 d0 rfl rfl)
  subst e0
  have lt1 : ∀ x ∈ p1, x.block < W.heap.size := by obtain ⟨m, hm⟩ := h1; exact DataW.trod_lt m _ _ _ hm
  obtain ⟨ao1, len1, cap1, l1, e1, few1, in1⟩ := ints_in h1 (hw 1 22 d1 rfl rfl)
  obtain ⟨ax1, nx1, cx1, rfl⟩ := okWide_slice Try.underlying22 (hval 1 22 v1 rfl rfl)
  obtain ⟨rfl, rfl, rfl⟩ : ax1 = ao1 ∧ nx1 = len1 ∧ cx1 = cap1 := by have e := e1; simp [Value.cells] at e; exact e
  have lt2 : ∀ x ∈ p2, x.block < W.heap.size := by obtain ⟨m, hm⟩ := h2; exact DataW.trod_lt m _ _ _ hm
  obtain ⟨ao2, len2, cap2, l2, e2, few2, in2⟩ := ints_in h2 (hw 2 22 d2 rfl rfl)
  obtain ⟨ax2, nx2, cx2, rfl⟩ := okWide_slice Try.underlying22 (hval 2 22 v2 rfl rfl)
  obtain ⟨rfl, rfl, rfl⟩ : ax2 = ao2 ∧ nx2 = len2 ∧ cx2 = cap2 := by have e := e2; simp [Value.cells] at e; exact e
  obtain ⟨a3, rfl, rfl, rfl, w3⟩ := open_int Try.underlying3 (hval 3 3 v3 rfl rfl) h3
  obtain ⟨a4, rfl, rfl, rfl, w4⟩ := open_int Try.underlying3 (hval 4 3 v4 rfl rfl) h4
  clear hA0 hval0
  refine (turned_walk m0 sa0 sn0 sc0 ga0 gn0 gc0 ax1 nx1 cx1 l1 ax2 nx2 cx2 l2 a3 a4 W in0 in1 few1 in2 few2).mono fun e W' ⟨he, bel⟩ => ?_
  subst he
  exact ⟨_, rfl, _, _, _, [], _, [], hW', trodAll_mk1 (shut_bool Try.underlying4 _), (trodAll_cons_mk (Below.trod laidOut (by kernel_rfl) (of_decide_eq_true (by kernel_rfl)) h0 bel lt0) (trodAll_cons_mk (Below.trod laidOut (by kernel_rfl) (of_decide_eq_true (by kernel_rfl)) h1 bel lt1) (trodAll_cons_mk (Below.trod laidOut (by kernel_rfl) (of_decide_eq_true (by kernel_rfl)) h2 bel lt2) (trodAll_cons_mk (shut_int Try.underlying3 w3) (trodAll_cons_mk (shut_int Try.underlying3 w4) trodAll_mk0))))), rfl, bel.frame _, fun h => by cases h⟩
end pathTurned

theorem pathTurned_holds : Rows.PathTurnedSaid :=
  OpenClaim.holds_of_wide 4 Try.f4 rfl rfl rfl rfl rfl rfl rfl ⟨rfl, rfl, rfl, rfl, rfl⟩ rfl rfl rfl rfl rfl (by kernel_rfl) Try.func4 (by kernel_rfl)
    (of_decide_eq_true (by kernel_rfl)) (by unfold Func.isWrapper; first | (rw [if_pos (by decide +kernel)]; kernel_rfl) | (rw [if_neg (by decide +kernel)]; exact ⟨rfl, rfl⟩))
    (fun os started H enc _ => pathTurned.lifted os started H enc)

end Go.Proofs.Ytegndeefddlccab
