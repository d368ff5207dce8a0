/-
  PathMirror's walk, where the two models are held against one another.
-/
import Derived.Test.YtegndeefddlccabPxA
import Derived.Test.YtegndeefddlccabPmD
import Derived.BigRegion
import Derived.Deep.RegionHeld3
import Derived.Deep.RegionLaw
import Derived.Laws.AppendOwn
namespace Go.Proofs.Ytegndeefddlccab
open Go.RowKit

structure B1 (w : World) (mc : Array Value) (wr : World) : Prop where
  low : Below w.heap.size w wr
  box : wr.heap[w.heap.size]? = some (.cells mc 25 (0, 0))
theorem B1.next {w : World} {mc : Array Value} {wr w2 : World} (h : B1 w mc wr) (hb : Below wr.heap.size wr w2) : B1 w mc w2 :=
  ⟨h.low.trans (hb.mono h.low.size), (Fr.of_below (O := fun _ => False) hb).heap h.box (fun h => h)⟩
theorem B1.old {w : World} {mc : Array Value} {wr : World} (h : B1 w mc wr) (i : Nat) (v : Value) (hv : mc[i]? = some v) : wr.cell? ⟨w.heap.size, i, none⟩ = some v := cell_block h.box i v hv
theorem lt_block {w : World} {g : Nat} {o : Obj} (h : w.heap[g]? = some o) : g < w.heap.size := (Array.getElem?_eq_some_iff.1 h).1
theorem it_one (z : Int) : ∀ u ∈ [Value.int .i64 z], u.oneCell' = true := by
  intro u hu
  simp at hu
  subst hu
  rfl
theorem cells_new (W : World) (l : List Value) (ty : TypeId) : ∀ (i : Nat) (u : Value), l[i]? = some u → (W.alloc (.cells l.toArray ty)).cell? ((⟨W.heap.size, 0, none⟩ : Addr).add i) = some u := by
  intro i u hu
  rw [Go.WideShapes.add_plain, Nat.zero_add]
  exact cell_block (heap_alloc_new W _) i u (by simpa using hu)
theorem MS.start {w : World} {mc : Array Value} {w1 : World} (h : B1 w mc w1) (s : Md) (ga : Option Addr) (gn gc : Nat) : MS w mc s ga gn gc w1.heap.size none 0 0 [] (w1.alloc (.cells (mdCells s none 0 0 ga gn gc) 25)) :=
  ⟨h.low.trans (((Below.refl _ _).alloc (Nat.le_refl _) _).mono h.low.size), by rw [((Below.refl _ w1).alloc (Nat.le_refl _) _).block _ (lt_block h.box)]; exact h.box, lt_block h.box, hp_at rfl, World.ownsRow_nil _ _ _ _⟩
def byteVals (l : List UInt8) : List Value := l.map fun b => .int .u8 (b.toNat : Int)
theorem info5 : (Try.prog.info? 5).map (fun i => (i.zero, i.size, i.bytes)) = some (some (.int .u8 0), 1, 1) := by kernel_rfl
theorem one_cell (c : UInt8) : ∀ u ∈ [Value.int .u8 (c.toNat : Int)], u.oneCell' = true := by
  intro u hu; simp at hu; subst hu; rfl
theorem owned_cells {w : World} {base : Nat} {e : TypeId} {size : Nat} {g n cap : Nat} {xs : List Value} (h : w.ownsRow base e size (.slice (some ⟨g, 0, none⟩) n cap) n xs) (j : Nat) (u : Value) (hj : xs[j]? = some u) :
    w.cell? ⟨g, j, none⟩ = some u := by
  rcases h.2 with ⟨hv, _⟩ | ⟨g', cap', cur, hv, hb, hg, h1, h2, h3, h4⟩
  · cases hv
  · cases hv
    rw [cell_of_row w g j cur e (0, 0) hg]
    rw [← h4] at hj
    have h5 : j < (cur.toList.take (n * size)).length := (List.getElem?_eq_some_iff.1 hj).1
    have h6 : j < n * size := by simp at h5; omega
    rw [List.getElem?_take_of_lt h6] at hj
    simpa using hj
theorem owned_text {w : World} {base : Nat} {ao : Option Addr} {n cap : Nat} {t : List UInt8} (h : w.ownsRow base 5 1 (.slice ao n cap) n (byteVals t)) :
    (convert 50 9 (.slice ao n cap)).run Try.prog w = .ok (.string ⟨t.toArray⟩) w := by
  have hl : t.length = n := by simpa [byteVals] using h.1
  rcases h.2 with ⟨hv, rfl⟩ | ⟨g, cap', cur, hv, hb, hg, _⟩
  · cases hv
    have ht : t = [] := List.eq_nil_of_length_eq_zero hl
    subst ht
    rw [run_convert_bytes_string w 50 9 5 none 0 0 Try.underlying50 Try.underlying5 Try.underlying9]
    rfl
  · cases hv
    subst hl
    refine run_convert_bytes_back w 50 9 5 ⟨g, 0, none⟩ cap t Try.underlying50 Try.underlying5 Try.underlying9 ?_
    intro j hj
    have hadd : (⟨g, 0, none⟩ : Addr).add j = ⟨g, j, none⟩ := by unfold Addr.add; split <;> simp_all
    rw [hadd]
    exact owned_cells h j _ (by simp [byteVals, hj])
theorem below_append {B n : Nat} {e : TypeId} {size : Nat} {v : Value} {xs : List Value} {w w3 : World} (hown : w.ownsRow B e size v n xs) (hB : B ≤ w.heap.size) {o : Obj} (hg : (w.alloc o).grownBy w3 v.ownBlock) : Below B w w3 :=
  Below.grown ((Below.refl _ _).alloc hB o) hg (by simp; omega) (fun j hj => (hown.lt _ hj).1)
/-- The two models stand, and the columns turned over are a row of bytes of their own. -/
structure MQ (w : World) (mc : Array Value) (s : Md) (ga : Option Addr) (gn gc : Nat) (bt : Nat) (va : Option Addr) (k vc : Nat) (xs : List Int) (B : Nat) (ua : Option Addr) (n uc : Nat) (t : List UInt8) (wr : World) : Prop where
  ms : MS w mc s ga gn gc bt va k vc xs wr
  tx : wr.ownsRow B 5 1 (.slice ua n uc) n (byteVals t)
theorem MQ.next {w : World} {mc : Array Value} {s : Md} {ga : Option Addr} {gn gc bt : Nat} {va : Option Addr} {k vc : Nat} {xs : List Int} {B : Nat} {ua : Option Addr} {n uc : Nat} {t : List UInt8} {wr w2 : World} (h : MQ w mc s ga gn gc bt va k vc xs B ua n uc t wr) (hb : Below wr.heap.size wr w2) : MQ w mc s ga gn gc bt va k vc xs B ua n uc t w2 :=
  ⟨h.ms.next hb, own_below h.tx hb⟩
theorem take_map_snoc (l : List UInt8) (k : Nat) (x : UInt8) (h : l[k]? = some x) : (l.take (k + 1)).map mirC = (l.take k).map mirC ++ [mirC x] := by
  rw [take_snocD _ _ _ h, List.map_append]; rfl
theorem ne_u8 {a b : UInt8} (h : ¬ a = b) : ((a.toNat : Int) == (b.toNat : Int)) = false := by
  have : a.toNat ≠ b.toNat := fun e => h (UInt8.toNat_inj.1 e)
  simp; omega
set_option maxRecDepth 20000 in
set_option maxHeartbeats 4000000 in
theorem mirror_in (L : Nat) (su : List Int) (gp : List (Int × Int)) (banded : Bool) (lo hi front back least : Int) (sa : Option Addr) (sn sc : Nat) (ga : Option Addr) (gn gc : Nat) (xa : Option Addr) (xn xc : Nat) (xs : List Int) (ya : Option Addr) (yn yc : Nat) (ys : List Int) (s : ByteArray) (w : World) (h : MdAt w (⟨(L : Int), su, gp, 1, banded, lo, hi, front, back, least⟩ : Md) sa sn ga gn) (hx : IntsAt w xa xn xs) (hy : IntsAt w ya yn ys) (hs : s.size ≤ 140737488351232) (hL1 : 2 ≤ L) (hL2 : L ≤ 20) (hlo : ¬ lo < -1099511627776) (hhi : ¬ 1099511627776 < hi) (hsn : sn = L * L) (wlo : (Lit.int .i64 lo).wf = true) (whi : (Lit.int .i64 hi).wf = true) :
    Calls Try.prog 6 #[.agg (mdCells (⟨(L : Int), su, gp, 1, banded, lo, hi, front, back, least⟩ : Md) sa sn sc ga gn gc), .slice xa xn xc, .slice ya yn yc, .string s] w fun e w' => e = .returned (.bool true) ∧ Below w.heap.size w w' := by
  obtain ⟨i3, hi3, hz30, hz31, hz32⟩ := info_parts info3
  obtain ⟨i5, hi5, hz50, hz51, hz52⟩ := info_parts info5
  have HM : Hid (MdAt w (⟨(L : Int), su, gp, 1, banded, lo, hi, front, back, least⟩ : Md) sa sn ga gn) := h
  have HX : Hid (IntsAt w xa xn xs) := hx
  have HY : Hid (IntsAt w ya yn ys) := hy
  have HSL : Hid (su.length = sn) := h.subst.length
  have HSN : Hid (sn = L * L) := hsn
  have hsn400 : sn ≤ 400 := by rw [hsn]; exact Nat.mul_le_mul hL2 hL2
  have hsL : su.length = L * L := by rw [← hsn]; exact h.subst.length
  have HAll : Hid (refE (mirW (⟨(L : Int), su, gp, 1, banded, lo, hi, front, back, least⟩ : Md)) ys xs = refE (⟨(L : Int), su, gp, 1, banded, lo, hi, front, back, least⟩ : Md) xs ys ∧ (decide (refE (mirW (⟨(L : Int), su, gp, 1, banded, lo, hi, front, back, least⟩ : Md)) ys xs = 0) && allowsB (mirW (⟨(L : Int), su, gp, 1, banded, lo, hi, front, back, least⟩ : Md)) ys.length xs.length ⟨0, 0, s.data.toList.map mirC⟩) = (decide (refE (⟨(L : Int), su, gp, 1, banded, lo, hi, front, back, least⟩ : Md) xs ys = 0) && allowsB (⟨(L : Int), su, gp, 1, banded, lo, hi, front, back, least⟩ : Md) xs.length ys.length ⟨0, 0, s.data.toList⟩) ∧
      scE (mirW (⟨(L : Int), su, gp, 1, banded, lo, hi, front, back, least⟩ : Md)) ys xs ⟨0, 0, s.data.toList.map mirC⟩ = scE (⟨(L : Int), su, gp, 1, banded, lo, hi, front, back, least⟩ : Md) xs ys ⟨0, 0, s.data.toList⟩ ∧ scV (mirW (⟨(L : Int), su, gp, 1, banded, lo, hi, front, back, least⟩ : Md)) ys xs ⟨0, 0, s.data.toList.map mirC⟩ = scV (⟨(L : Int), su, gp, 1, banded, lo, hi, front, back, least⟩ : Md) xs ys ⟨0, 0, s.data.toList⟩) :=
    mirW_all xs ys s.data.toList (by show su.length = (L : Int).toNat * (L : Int).toNat; rw [Int.toNat_natCast]; exact hsL) rfl (by show _ ≤ lo; omega) wlo whi
  have hsm : s.size ≤ maxLen := by unfold maxLen; omega
  obtain ⟨re, hre⟩ : ∃ r, refE (⟨(L : Int), su, gp, 1, banded, lo, hi, front, back, least⟩ : Md) xs ys = r := ⟨_, rfl⟩
  obtain ⟨a, ha⟩ : ∃ r, (decide (refE (⟨(L : Int), su, gp, 1, banded, lo, hi, front, back, least⟩ : Md) xs ys = 0) && allowsB (⟨(L : Int), su, gp, 1, banded, lo, hi, front, back, least⟩ : Md) xs.length ys.length ⟨0, 0, s.data.toList⟩) = r := ⟨_, rfl⟩
  obtain ⟨sv, hsv⟩ : ∃ r, scV (⟨(L : Int), su, gp, 1, banded, lo, hi, front, back, least⟩ : Md) xs ys ⟨0, 0, s.data.toList⟩ = r := ⟨_, rfl⟩
  obtain ⟨se, hse⟩ : ∃ r, scE (⟨(L : Int), su, gp, 1, banded, lo, hi, front, back, least⟩ : Md) xs ys ⟨0, 0, s.data.toList⟩ = r := ⟨_, rfl⟩
  obtain ⟨mc, hmc⟩ : ∃ c, (mdCells (⟨(L : Int), su, gp, 1, banded, lo, hi, front, back, least⟩ : Md) sa sn sc ga gn gc) = c := ⟨_, rfl⟩
  have HMc : Hid ((mdCells (⟨(L : Int), su, gp, 1, banded, lo, hi, front, back, least⟩ : Md) sa sn sc ga gn gc) = mc) := hmc
  have C1 : Hid (∀ W, Below w.heap.size w W → Calls Try.prog 12 #[.agg #[.int .i64 (L : Int), .slice sa sn sc, .slice ga gn gc, .int .i64 1, .bool banded, .int .i64 lo, .int .i64 hi, .int .i64 front, .int .i64 back, .int .i64 least], .slice xa xn xc, .slice ya yn yc, .agg #[.int .i64 0, .int .i64 0, .string s]] W fun e w' => e = .returned (.tuple #[.bool a, .int .i64 re]) ∧ Below W.heap.size W w') := fun W hb => by
    have := legal_calls (⟨(L : Int), su, gp, 1, banded, lo, hi, front, back, least⟩ : Md) sa sn sc ga gn gc xa xn xc ya yn yc xs ys 0 0 s W (HM.out.below hb) (HX.out.below hb) (HY.out.below hb) hsm
    rw [ha, hre] at this
    exact this
  have C3 : Hid (∀ W, Below w.heap.size w W → Calls Try.prog 11 #[.agg #[.int .i64 (L : Int), .slice sa sn sc, .slice ga gn gc, .int .i64 1, .bool banded, .int .i64 lo, .int .i64 hi, .int .i64 front, .int .i64 back, .int .i64 least], .slice xa xn xc, .slice ya yn yc, .agg #[.int .i64 0, .int .i64 0, .string s]] W fun e w' => e = .returned (.tuple #[.int .i64 sv, .int .i64 se]) ∧ Below W.heap.size W w') := fun W hb => by
    have := score_calls (⟨(L : Int), su, gp, 1, banded, lo, hi, front, back, least⟩ : Md) sa sn sc ga gn gc xa xn xc ya yn yc xs ys 0 0 s W (HM.out.below hb) (HX.out.below hb) (HY.out.below hb) hsm
    rw [hsv, hse] at this
    exact this
  have HT : Hid (∀ bt va vc W, MS w mc (mirW (⟨(L : Int), su, gp, 1, banded, lo, hi, front, back, least⟩ : Md)) ga gn gc bt va sn vc (mirS L su) W → MdAt W (mirW (⟨(L : Int), su, gp, 1, banded, lo, hi, front, back, least⟩ : Md)) va sn ga gn) := fun bt va vc W hms =>
    ⟨ints_own hms.own (by show (mirS L su).length = sn; rw [mir_len, HSN.out]) (by unfold maxLen; omega), HM.out.gaps.below hms.low⟩
  have htz : (⟨(s.data.toList.map mirC).toArray⟩ : ByteArray).size ≤ maxLen := by
    show (s.data.toList.map mirC).toArray.size ≤ maxLen
    simp
    exact hsm
  have C2 : Hid (∀ bt va vc W, MS w mc (mirW (⟨(L : Int), su, gp, 1, banded, lo, hi, front, back, least⟩ : Md)) ga gn gc bt va sn vc (mirS L su) W → Calls Try.prog 12 #[.agg #[.int .i64 (L : Int), .slice va sn vc, .slice ga gn gc, .int .i64 1, .bool banded, .int .i64 (wrap64 (-hi)), .int .i64 (wrap64 (-lo)), .int .i64 front, .int .i64 back, .int .i64 least], .slice ya yn yc, .slice xa xn xc, .agg #[.int .i64 0, .int .i64 0, .string ⟨(s.data.toList.map mirC).toArray⟩]] W fun e w' => e = .returned (.tuple #[.bool a, .int .i64 re]) ∧ Below W.heap.size W w') := fun bt va vc W hms => by
    have := legal_calls (mirW (⟨(L : Int), su, gp, 1, banded, lo, hi, front, back, least⟩ : Md)) va sn vc ga gn gc ya yn yc xa xn xc ys xs 0 0 ⟨(s.data.toList.map mirC).toArray⟩ W (HT.out _ _ _ _ hms) (HY.out.below hms.low) (HX.out.below hms.low) htz
    rw [List.toList_toArray, HAll.out.2.1, HAll.out.1, ha, hre] at this
    exact this
  have C4 : Hid (∀ bt va vc W, MS w mc (mirW (⟨(L : Int), su, gp, 1, banded, lo, hi, front, back, least⟩ : Md)) ga gn gc bt va sn vc (mirS L su) W → Calls Try.prog 11 #[.agg #[.int .i64 (L : Int), .slice va sn vc, .slice ga gn gc, .int .i64 1, .bool banded, .int .i64 (wrap64 (-hi)), .int .i64 (wrap64 (-lo)), .int .i64 front, .int .i64 back, .int .i64 least], .slice ya yn yc, .slice xa xn xc, .agg #[.int .i64 0, .int .i64 0, .string ⟨(s.data.toList.map mirC).toArray⟩]] W fun e w' => e = .returned (.tuple #[.int .i64 sv, .int .i64 se]) ∧ Below W.heap.size W w') := fun bt va vc W hms => by
    have := score_calls (mirW (⟨(L : Int), su, gp, 1, banded, lo, hi, front, back, least⟩ : Md)) va sn vc ga gn gc ya yn yc xa xn xc ys xs 0 0 ⟨(s.data.toList.map mirC).toArray⟩ W (HT.out _ _ _ _ hms) (HY.out.below hms.low) (HX.out.below hms.low) htz
    rw [List.toList_toArray, HAll.out.2.2.1, HAll.out.2.2.2, hsv, hse] at this
    exact this
  clear hre ha hsv hse HAll HX HY htz wlo whi hmc
  have HMx : Hid (mc[1]? = some (.slice sa sn sc) ∧ mc[0]? = some (.int .i64 (L : Int))) := by rw [← HMc.out]; exact ⟨rfl, rfl⟩
  have HMy : Hid (∀ (i : Nat) (v : Value), (#[.int .i64 (L : Int), .slice sa sn sc, .slice ga gn gc, .int .i64 1, .bool banded, .int .i64 lo, .int .i64 hi, .int .i64 front, .int .i64 back, .int .i64 least] : Array Value)[i]? = some v → mc[i]? = some v) := by rw [← HMc.out]; exact fun _ _ h => h
  have HSz : Hid (s.size ≤ 140737488351232) := hs
  have HB0 : Hid (B1 w mc (w.alloc (.cells (mdCells (⟨(L : Int), su, gp, 1, banded, lo, hi, front, back, least⟩ : Md) sa sn sc ga gn gc) 25))) := by rw [HMc.out]; exact ⟨bl1 _ _, hp_at rfl⟩
  have hLL : 0 ≤ (L : Int) * (L : Int) ∧ (L : Int) * (L : Int) ≤ 400 := ⟨Int.mul_nonneg (by omega) (by omega), Int.mul_le_mul (show (L : Int) ≤ 20 by omega) (show (L : Int) ≤ 20 by omega) (by omega) (by omega)⟩
  have h6b : ((sn : Int) != (L : Int) * (L : Int)) = false := by rw [hsn]; simp
  have u4 : ¬ (L : Int) < 2 := by omega
  have u5 : ¬ 20 < (L : Int) := by omega
  clear h hx hy hs hsn hsL
  rw [show (mdCells (⟨(L : Int), su, gp, 1, banded, lo, hi, front, back, least⟩ : Md) sa sn sc ga gn gc) = #[.int .i64 (L : Int), .slice sa sn sc, .slice ga gn gc, .int .i64 1, .bool banded, .int .i64 lo, .int .i64 hi, .int .i64 front, .int .i64 back, .int .i64 least] from rfl]
  rw [show (mdCells (⟨(L : Int), su, gp, 1, banded, lo, hi, front, back, least⟩ : Md) sa sn sc ga gn gc) = #[.int .i64 (L : Int), .slice sa sn sc, .slice ga gn gc, .int .i64 1, .bool banded, .int .i64 lo, .int .i64 hi, .int .i64 front, .int .i64 back, .int .i64 least] from rfl] at HB0
  go_enter Try.func6, Try.ntmps6
  go_wp2_with fail
  refine (awake_calls _).mono ?_
  rintro e w1 ⟨rfl, hb1⟩
  have HB1 : Hid (B1 w mc w1) := HB0.out.next hb1
  clear hb1 HB0
  obtain ⟨c0, c1, c2, c3, c4, c5, c6, c7, c8, c9⟩ : w1.cell? ⟨w.heap.size, 0, none⟩ = some (.int .i64 (L : Int)) ∧ w1.cell? ⟨w.heap.size, 1, none⟩ = some (.slice sa sn sc) ∧ w1.cell? ⟨w.heap.size, 2, none⟩ = some (.slice ga gn gc) ∧ w1.cell? ⟨w.heap.size, 3, none⟩ = some (.int .i64 1) ∧ w1.cell? ⟨w.heap.size, 4, none⟩ = some (.bool banded) ∧ w1.cell? ⟨w.heap.size, 5, none⟩ = some (.int .i64 lo) ∧ w1.cell? ⟨w.heap.size, 6, none⟩ = some (.int .i64 hi) ∧ w1.cell? ⟨w.heap.size, 7, none⟩ = some (.int .i64 front) ∧ w1.cell? ⟨w.heap.size, 8, none⟩ = some (.int .i64 back) ∧ w1.cell? ⟨w.heap.size, 9, none⟩ = some (.int .i64 least) := by
    have hb := HB1.out
    rw [← HMc.out] at hb
    exact ⟨hb.old 0 _ rfl, hb.old 1 _ rfl, hb.old 2 _ rfl, hb.old 3 _ rfl, hb.old 4 _ rfl, hb.old 5 _ rfl, hb.old 6 _ rfl, hb.old 7 _ rfl, hb.old 8 _ rfl, hb.old 9 _ rfl⟩
  have HX0 : Hid (MS w mc (mirW (⟨(L : Int), su, gp, 1, banded, lo, hi, front, back, least⟩ : Md)) ga gn gc w1.heap.size none 0 0 [] (w1.alloc (.cells #[.int .i64 (L : Int), .slice none 0 0, .slice ga gn gc, .int .i64 1, .bool banded, .int .i64 (wrap64 (-hi)), .int .i64 (wrap64 (-lo)), .int .i64 front, .int .i64 back, .int .i64 least] 25))) := MS.start HB1.out (mirW (⟨(L : Int), su, gp, 1, banded, lo, hi, front, back, least⟩ : Md)) ga gn gc
  have hsz1 : w.heap.size < w1.heap.size := lt_block HB1.out.box
  clear HB1
  go_wp2
  clear c0 c1 c2 c3 c4 c5 c6 c7 c8 c9
  go_loopw [11] (fun i wr => ∃ (x : Nat) (va : Option Addr) (vc : Nat), x ≤ L ∧ i = .int .i64 x ∧ MS w mc (mirW (⟨(L : Int), su, gp, 1, banded, lo, hi, front, back, least⟩ : Md)) ga gn gc w1.heap.size va (x * L) vc ((mirS L su).take (x * L)) wr) (fun i _ => L - (intOf i).toNat)
  case atStart => exact ⟨0, none, 0, Nat.zero_le _, rfl, by rw [Nat.zero_mul]; exact HX0.out⟩
  case round =>
    obtain ⟨x, va, vc, hx, rfl, hms⟩ := hrel
    have HX1 : Hid (MS w mc (mirW (⟨(L : Int), su, gp, 1, banded, lo, hi, front, back, least⟩ : Md)) ga gn gc w1.heap.size va (x * L) vc ((mirS L su).take (x * L)) wr) := hms
    clear hms HX0
    have c0 := HX1.out.old 0 _ HMx.out.2
    by_cases hlt : x < L
    · obtain ⟨k0, hk0⟩ : ∃ k, x * L = k := ⟨_, rfl⟩
      have HK0 : Hid (x * L = k0) := hk0
      rw [hk0] at HX1
      clear hk0
      go_wp2
      clear c0
      go_loopw [12] (fun i wr => ∃ (y : Nat) (va : Option Addr) (vc : Nat), y ≤ L ∧ i = .int .i64 y ∧ MS w mc (mirW (⟨(L : Int), su, gp, 1, banded, lo, hi, front, back, least⟩ : Md)) ga gn gc w1.heap.size va (k0 + y) vc ((mirS L su).take (k0 + y)) wr) (fun i _ => L - (intOf i).toNat)
      case atStart => exact ⟨0, va, vc, Nat.zero_le _, rfl, HX1.out⟩
      case round =>
        clear HX1
        obtain ⟨y, ua, uc, hy, rfl, hms⟩ := hrel
        have HX2 : Hid (MS w mc (mirW (⟨(L : Int), su, gp, 1, banded, lo, hi, front, back, least⟩ : Md)) ga gn gc w1.heap.size ua (k0 + y) uc ((mirS L su).take (k0 + y)) wr) := hms
        clear hms
        have c0 := HX2.out.old 0 _ HMx.out.2
        by_cases hlt2 : y < L
        · obtain ⟨b, off, rfl, hcs⟩ := HM.out.subst.cells (show 0 < sn by rw [HSN.out]; exact Nat.mul_pos (by omega) (by omega))
          have hql : y * L + x < sn := by
            rw [HSN.out]
            have : (y + 1) * L ≤ L * L := Nat.mul_le_mul_right L hlt2
            rw [Nat.add_mul] at this
            omega
          have HC0 : Hid (w.cell? ⟨b, off + (y * L + x), none⟩ = some (.int .i64 (su.getD (y * L + x) 0))) := hcs _ hql
          have HTk : Hid ((mirS L su).take (k0 + y + 1) = (mirS L su).take (k0 + y) ++ [su.getD (y * L + x) 0]) := by rw [← HK0.out]; exact mir_snoc hlt hlt2
          have HKb : Hid (k0 + y + 1 ≤ 400) := by
            have : (x + 1) * L ≤ L * L := Nat.mul_le_mul_right L hlt
            rw [Nat.add_mul, HK0.out] at this
            rw [← HSN.out] at this
            show _ ≤ _
            omega
          obtain ⟨p, hp⟩ : ∃ p : Nat, y * L = p := ⟨_, rfl⟩
          have hpi : (y : Int) * (L : Int) = (p : Int) := by rw [← hp]; simp
          rw [hp] at HC0 HTk hql
          clear hp hcs
          obtain ⟨q, hq⟩ : ∃ q : Nat, p + x = q := ⟨_, rfl⟩
          have hqi : (p : Int) + (x : Int) = (q : Int) := by omega
          have hpq : p ≤ q := by omega
          rw [hq] at HC0 HTk hql
          clear hq
          have hkb := HKb.out
          obtain ⟨kk, hkk⟩ : ∃ kk : Nat, k0 + y = kk := ⟨_, rfl⟩
          have HKK : Hid (k0 + y = kk) := hkk
          rw [hkk] at HX2 HTk hkb
          clear hkk HKb
          generalize su.getD q 0 = z at *
          have hF : ∀ W, MS w mc (mirW (⟨(L : Int), su, gp, 1, banded, lo, hi, front, back, least⟩ : Md)) ga gn gc w1.heap.size ua kk uc ((mirS L su).take kk) W → W.cell? ⟨w1.heap.size, 1, none⟩ = some (.slice ua kk uc) ∧ W.cell? ⟨w.heap.size, 1, none⟩ = some (.slice (some ⟨b, off, none⟩) sn sc) ∧ W.cell? ⟨w.heap.size, 0, none⟩ = some (.int .i64 (L : Int)) ∧ W.cell? ⟨b, off + q, none⟩ = some (.int .i64 z) := fun W hW =>
            ⟨hW.cell 1 _ rfl, hW.old 1 _ HMx.out.1, hW.old 0 _ HMx.out.2, by rw [hW.low.cell (World.block_lt_of_cell? w _ HC0.out)]; exact HC0.out⟩
          have hJd : MS w mc (mirW (⟨(L : Int), su, gp, 1, banded, lo, hi, front, back, least⟩ : Md)) ga gn gc w1.heap.size ua kk uc ((mirS L su).take kk) wr.drew := HX2.out.drew
          obtain ⟨x1, x2, x3, x4⟩ := hF _ hJd
          have x1o : ∀ o, (wr.alloc o).drew.cell? ⟨w1.heap.size, 1, none⟩ = some (.slice ua kk uc) := fun o => (hF _ (HX2.out.alloc o).drew).1
          have x2o : ∀ o, (wr.alloc o).drew.cell? ⟨w.heap.size, 1, none⟩ = some (.slice (some ⟨b, off, none⟩) sn sc) := fun o => (hF _ (HX2.out.alloc o).drew).2.1
          have x3o : ∀ o, (wr.alloc o).drew.cell? ⟨w.heap.size, 0, none⟩ = some (.int .i64 (L : Int)) := fun o => (hF _ (HX2.out.alloc o).drew).2.2.1
          have x4o : ∀ o, (wr.alloc o).drew.cell? ⟨b, off + q, none⟩ = some (.int .i64 z) := fun o => (hF _ (HX2.out.alloc o).drew).2.2.2
          have HJd : Hid (MS w mc (mirW (⟨(L : Int), su, gp, 1, banded, lo, hi, front, back, least⟩ : Md)) ga gn gc w1.heap.size ua kk uc ((mirS L su).take kk) wr.drew) := hJd
          have HJO : Hid (∀ W o, Hid (MS w mc (mirW (⟨(L : Int), su, gp, 1, banded, lo, hi, front, back, least⟩ : Md)) ga gn gc w1.heap.size ua kk uc ((mirS L su).take kk) W) → (W.alloc o).ownsRow (w1.heap.size + 1) 3 1 (.slice ua kk uc) kk (intVals ((mirS L su).take kk))) := fun W o hW => (hW.out.alloc o).own
          have HJS : Hid (∀ W o, Hid (MS w mc (mirW (⟨(L : Int), su, gp, 1, banded, lo, hi, front, back, least⟩ : Md)) ga gn gc w1.heap.size ua kk uc ((mirS L su).take kk) W) → w1.heap.size + 1 ≤ (W.alloc o).heap.size) := fun W o hW => lt_block (hW.out.alloc o).tb
          have HJE : Hid (∀ W o v' w4, Hid (MS w mc (mirW (⟨(L : Int), su, gp, 1, banded, lo, hi, front, back, least⟩ : Md)) ga gn gc w1.heap.size ua kk uc ((mirS L su).take kk) W) → w4.ownsRow (w1.heap.size + 1) 3 1 v' (kk + 1) (intVals ((mirS L su).take kk) ++ [.int .i64 z]) → (W.alloc o).grownBy w4 (Value.slice ua kk uc).ownBlock →
              w4.cell? ⟨w1.heap.size, 1, none⟩ = some (.slice ua kk uc) ∧ w4.frozen? ⟨w1.heap.size, 1, none⟩ = false ∧ w4.cell? ⟨w.heap.size, 1, none⟩ = some (.slice (some ⟨b, off, none⟩) sn sc) ∧ w4.cell? ⟨w.heap.size, 0, none⟩ = some (.int .i64 (L : Int)) ∧ w4.cell? ⟨b, off + q, none⟩ = some (.int .i64 z) ∧ Hid (∃ va' vc', v' = .slice va' (kk + 1) vc' ∧ MS w mc (mirW (⟨(L : Int), su, gp, 1, banded, lo, hi, front, back, least⟩ : Md)) ga gn gc w1.heap.size va' (kk + 1) vc' ((mirS L su).take (kk + 1)) (w4.setCell ⟨w1.heap.size, 1, none⟩ v'))) := by
            intro W o v' w4 hW ho hg
            rw [HTk.out]
            obtain ⟨q1, q2, va', vc', q3, q4⟩ := (hW.out.alloc o).add ho hg
            have hlt2 := q4.lt
            have hbl : b < w.heap.size := World.block_lt_of_cell? w _ HC0.out
            have r1 := q4.old 1 _ HMx.out.1
            have r3 := q4.old 0 _ HMx.out.2
            have r2 : (w4.setCell ⟨w1.heap.size, 1, none⟩ v').cell? ⟨b, off + q, none⟩ = some (.int .i64 z) := by rw [q4.low.cell (World.block_lt_of_cell? w _ HC0.out)]; exact HC0.out
            rw [World.cell?_of_block (w := w4) (Below.heap_setCell _ _ _ _ (by show w.heap.size ≠ w1.heap.size; omega))] at r1 r3
            rw [World.cell?_of_block (w := w4) (Below.heap_setCell _ _ _ _ (by show b ≠ w1.heap.size; omega))] at r2
            exact ⟨q1, q2, r1, r3, r2, va', vc', q3, q4⟩
          have hne2 : b < w1.heap.size := by have := World.block_lt_of_cell? w _ HC0.out; simp at this; omega
          clear hF hJd HTk
          have hw1 : IntKind.i64.wrap (p : Int) = (p : Int) := (IntWalk.i64_left _).trans (by unfold wrap64; omega)
          have hw2 : IntKind.i64.wrap (q : Int) = (q : Int) := (IntWalk.i64_left _).trans (by unfold wrap64; omega)
          go_wp2_with fail
          go_region_law (first
            | (refine step_append_own rfl (.tmp 83) (.tmp 94) 22 rfl (w1.heap.size + 1) 3 i3 _ 1 8 Try.underlying22 hi3 hz30 hz31 hz32 rfl (by decide) _ _ _ (by simp [Act.eval]) (HJO.out _ _ (by assumption)) ⟨_, 0, none⟩ 1 1 [.int .i64 z] (by simp [Act.eval]) rfl (cells_new _ [.int .i64 z] 3) (it_one _) (by unfold maxLen; omega) (by omega) (HJS.out _ _ (by assumption)) ?_
               intro v' w4 ho hg
               obtain ⟨k1, k2, k4, k5, k6, k3⟩ := HJE.out wr.drew _ _ _ HJd ho hg
               obtain ⟨ao2, cap2, rfl⟩ := shape_own ho
               clear ho hg))
          all_goals (
            have HK3 : Hid (MS w mc (mirW (⟨(L : Int), su, gp, 1, banded, lo, hi, front, back, least⟩ : Md)) ga gn gc w1.heap.size ao2 (kk + 1) cap2 ((mirS L su).take (kk + 1)) (w4.setCell ⟨w1.heap.size, 1, none⟩ (.slice ao2 (kk + 1) cap2))) := by
              obtain ⟨va', vc', q3, q4⟩ := k3.out
              cases q3
              exact q4
            clear k3 x1 x2 x3 x4 x1o x2o x3o x4o HJO HJS HJE HJd HX2
            go_wp2
            go_roundw
            case rel => exact ⟨y + 1, ao2, cap2, by omega, by go_num, by rw [← Nat.add_assoc, HKK.out]; exact HK3.out⟩
            case measure => simp [intOf]; omega)
        · have HE : Hid (k0 + y = (x + 1) * L) := by
            have : y = L := by omega
            show _ = _
            rw [this, ← HK0.out, Nat.add_mul, Nat.one_mul]
          rw [HE.out] at HX2
          go_wp2
          go_roundw
          case rel => exact ⟨x + 1, ua, uc, by omega, by go_num, HX2.out⟩
          case measure => simp [intOf]; omega
    · have HXF : Hid (MS w mc (mirW (⟨(L : Int), su, gp, 1, banded, lo, hi, front, back, least⟩ : Md)) ga gn gc w1.heap.size va sn vc (mirS L su) wr) := by
        have hxe : x = L := by omega
        have := HX1.out
        rw [hxe, ← HSN.out, List.take_of_length_le (by rw [mir_len, HSN.out]; exact Nat.le_refl _)] at this
        exact this
      clear HX1
      go_wp2
      clear c0
      rename World => wo
      have hso : s.size ≤ 140737488351232 := HSz.out
      go_loopw [13, 14] (fun v i wq => ∃ (j : Nat), j ≤ s.size ∧ i = .int .i64 j ∧ wq.ownsRow wo.heap.size 5 1 v j (byteVals ((s.data.toList.take j).map mirC)) ∧ Below wo.heap.size wo wq) (fun _ i _ => s.size - (intOf i).toNat)
      case atStart => exact ⟨0, Nat.zero_le _, rfl, World.ownsRow_nil _ _ _ _, Below.refl _ _⟩
      case round =>
        obtain ⟨j, hj, rfl, hown, hbel⟩ := hrel
        obtain ⟨av, cav, rfl⟩ := shape_own hown
        have hsw : wo.heap.size ≤ wr.heap.size := hbel.size
        by_cases hlt2 : j < s.size
        · have HTk : (s.data.toList.take (j + 1)).map mirC = (s.data.toList.take j).map mirC ++ [mirC s[j]] := take_map_snoc _ _ _ (ba_list s j hlt2)
          have hu8 := UInt8.toNat_lt s[j]
          obtain ⟨bc, hbc⟩ : ∃ bc, byteVals ((s.data.toList.take j).map mirC) = bc := ⟨_, rfl⟩
          rw [hbc] at hown
          have HBk : Hid (wr.ownsRow wo.heap.size 5 1 (.slice av j cav) j bc ∧ Below wo.heap.size wo wr) := ⟨hown, hbel⟩
          clear hown hbel
          by_cases h68 : s[j] = 68
          · have e1 : ((s[j].toNat : Int) == 68) = true := by rw [h68]; rfl
            have HN : Hid (byteVals ((s.data.toList.take (j + 1)).map mirC) = bc ++ [.int .u8 73]) := by show _ = _; rw [← hbc]; rw [HTk, show mirC s[j] = 73 by rw [h68]; rfl]; simp [byteVals]
            clear HTk hbc h68
            go_wp2_with (at_builtin; go_loud (refine wpList_append_own _ rfl _ _ 50 rfl wo.heap.size 5 i5 (.int .u8 0) 1 1 Try.underlying50 hi5 hz50 hz51 hz52 rfl (by decide) (.slice av j cav) _ _ rfl (HBk.out.1.alloc _) ⟨_, 0, none⟩ 1 1 [.int .u8 73] rfl rfl ?c1 (one_cell 73) ?c3 ?c4 ?c5 ?_))
            case c1 =>
              intro i u hu
              match i, hu with
              | 0, hu => simp at hu; subst hu; simp [Addr.add]
            case c3 => unfold maxLen; omega
            case c4 => omega
            case c5 => simp; omega
            intro v' w3 hown' hgrow _
            have HB3 : Hid (w3.ownsRow wo.heap.size 5 1 v' (j + 1) (byteVals ((s.data.toList.take (j + 1)).map mirC)) ∧ Below wo.heap.size wo w3) := ⟨by rw [HN.out]; exact hown', HBk.out.2.trans (below_append HBk.out.1 hsw hgrow)⟩
            clear hown' hgrow
            go_wp2
            go_roundw
            case rel => exact ⟨j + 1, by omega, by go_num, HB3.out⟩
            case measure => simp [intOf]; omega
          · have e1 : ((s[j].toNat : Int) == 68) = false := ne_u8 h68
            by_cases h73 : s[j] = 73
            · have e2 : ((s[j].toNat : Int) == 73) = true := by rw [h73]; rfl
              have HN : Hid (byteVals ((s.data.toList.take (j + 1)).map mirC) = bc ++ [.int .u8 68]) := by show _ = _; rw [← hbc]; rw [HTk, show mirC s[j] = 68 by rw [h73]; rfl]; simp [byteVals]
              clear HTk hbc h68 h73
              go_wp2_with (at_builtin; go_loud (refine wpList_append_own _ rfl _ _ 50 rfl wo.heap.size 5 i5 (.int .u8 0) 1 1 Try.underlying50 hi5 hz50 hz51 hz52 rfl (by decide) (.slice av j cav) _ _ rfl (HBk.out.1.alloc _) ⟨_, 0, none⟩ 1 1 [.int .u8 68] rfl rfl ?c1 (one_cell 68) ?c3 ?c4 ?c5 ?_))
              case c1 =>
                intro i u hu
                match i, hu with
                | 0, hu => simp at hu; subst hu; simp [Addr.add]
              case c3 => unfold maxLen; omega
              case c4 => omega
              case c5 => simp; omega
              intro v' w3 hown' hgrow _
              have HB3 : Hid (w3.ownsRow wo.heap.size 5 1 v' (j + 1) (byteVals ((s.data.toList.take (j + 1)).map mirC)) ∧ Below wo.heap.size wo w3) := ⟨by rw [HN.out]; exact hown', HBk.out.2.trans (below_append HBk.out.1 hsw hgrow)⟩
              clear hown' hgrow
              go_wp2
              go_roundw
              case rel => exact ⟨j + 1, by omega, by go_num, HB3.out⟩
              case measure => simp [intOf]; omega
            · have e2 : ((s[j].toNat : Int) == 73) = false := ne_u8 h73
              have HN : Hid (byteVals ((s.data.toList.take (j + 1)).map mirC) = bc ++ [.int .u8 (s[j].toNat : Int)]) := by show _ = _; rw [← hbc]; rw [HTk, show mirC s[j] = s[j] by unfold mirC; rw [if_neg h68, if_neg h73]]; simp [byteVals]
              clear HTk hbc h68 h73
              go_wp2_with (at_builtin; go_loud (refine wpList_append_own _ rfl _ _ 50 rfl wo.heap.size 5 i5 (.int .u8 0) 1 1 Try.underlying50 hi5 hz50 hz51 hz52 rfl (by decide) (.slice av j cav) _ _ rfl (HBk.out.1.alloc _) ⟨_, 0, none⟩ 1 1 [.int .u8 (s[j].toNat : Int)] rfl rfl ?c1 (one_cell s[j]) ?c3 ?c4 ?c5 ?_))
              case c1 =>
                intro i u hu
                match i, hu with
                | 0, hu => simp at hu; subst hu; simp [Addr.add]
              case c3 => unfold maxLen; omega
              case c4 => omega
              case c5 => simp; omega
              intro v' w3 hown' hgrow _
              have HB3 : Hid (w3.ownsRow wo.heap.size 5 1 v' (j + 1) (byteVals ((s.data.toList.take (j + 1)).map mirC)) ∧ Below wo.heap.size wo w3) := ⟨by rw [HN.out]; exact hown', HBk.out.2.trans (below_append HBk.out.1 hsw hgrow)⟩
              clear hown' hgrow
              go_wp2
              go_roundw
              case rel => exact ⟨j + 1, by omega, by go_num, HB3.out⟩
              case measure => simp [intOf]; omega
        · have HQ : Hid (MQ w mc (mirW (⟨(L : Int), su, gp, 1, banded, lo, hi, front, back, least⟩ : Md)) ga gn gc w1.heap.size va sn vc (mirS L su) wo.heap.size av j cav (s.data.toList.map mirC) wr) := by
            refine ⟨HXF.out.next hbel, ?_⟩
            have : s.data.toList.take j = s.data.toList := List.take_of_length_le (by rw [ba_size]; omega)
            rw [this] at hown
            exact hown
          clear hown hbel HXF
          have c0 := HQ.out.ms.old 0 _ (HMy.out 0 _ rfl); have c1 := HQ.out.ms.old 1 _ (HMy.out 1 _ rfl); have c2 := HQ.out.ms.old 2 _ (HMy.out 2 _ rfl); have c3 := HQ.out.ms.old 3 _ (HMy.out 3 _ rfl); have c4 := HQ.out.ms.old 4 _ (HMy.out 4 _ rfl); have c5 := HQ.out.ms.old 5 _ (HMy.out 5 _ rfl); have c6 := HQ.out.ms.old 6 _ (HMy.out 6 _ rfl); have c7 := HQ.out.ms.old 7 _ (HMy.out 7 _ rfl); have c8 := HQ.out.ms.old 8 _ (HMy.out 8 _ rfl); have c9 := HQ.out.ms.old 9 _ (HMy.out 9 _ rfl)
          go_wp2_with fail
          with_reducible refine (C1.out _ HQ.out.ms.low).mono ?_
          rintro e w2 ⟨rfl, hb2⟩
          have HQ2 : Hid (MQ w mc (mirW (⟨(L : Int), su, gp, 1, banded, lo, hi, front, back, least⟩ : Md)) ga gn gc w1.heap.size va sn vc (mirS L su) wo.heap.size av j cav (s.data.toList.map mirC) w2) := HQ.out.next hb2
          clear hb2 HQ c0 c1 c2 c3 c4 c5 c6 c7 c8 c9
          have d0 := HQ2.out.ms.cell 0 (.int .i64 (L : Int)) rfl; have d1 := HQ2.out.ms.cell 1 (.slice va sn vc) rfl; have d2 := HQ2.out.ms.cell 2 (.slice ga gn gc) rfl; have d3 := HQ2.out.ms.cell 3 (.int .i64 1) rfl; have d4 := HQ2.out.ms.cell 4 (.bool banded) rfl; have d5 := HQ2.out.ms.cell 5 (.int .i64 (wrap64 (-hi))) rfl; have d6 := HQ2.out.ms.cell 6 (.int .i64 (wrap64 (-lo))) rfl; have d7 := HQ2.out.ms.cell 7 (.int .i64 front) rfl; have d8 := HQ2.out.ms.cell 8 (.int .i64 back) rfl; have d9 := HQ2.out.ms.cell 9 (.int .i64 least) rfl
          have hcv := owned_text HQ2.out.tx
          go_wp2_with fail
          with_reducible refine (C2.out _ _ _ _ HQ2.out.ms).mono ?_
          rintro e w3 ⟨rfl, hb3⟩
          have HQ3 : Hid (MQ w mc (mirW (⟨(L : Int), su, gp, 1, banded, lo, hi, front, back, least⟩ : Md)) ga gn gc w1.heap.size va sn vc (mirS L su) wo.heap.size av j cav (s.data.toList.map mirC) w3) := HQ2.out.next hb3
          clear hb3 HQ2 hcv d0 d1 d2 d3 d4 d5 d6 d7 d8 d9
          have c0 := HQ3.out.ms.old 0 _ (HMy.out 0 _ rfl); have c1 := HQ3.out.ms.old 1 _ (HMy.out 1 _ rfl); have c2 := HQ3.out.ms.old 2 _ (HMy.out 2 _ rfl); have c3 := HQ3.out.ms.old 3 _ (HMy.out 3 _ rfl); have c4 := HQ3.out.ms.old 4 _ (HMy.out 4 _ rfl); have c5 := HQ3.out.ms.old 5 _ (HMy.out 5 _ rfl); have c6 := HQ3.out.ms.old 6 _ (HMy.out 6 _ rfl); have c7 := HQ3.out.ms.old 7 _ (HMy.out 7 _ rfl); have c8 := HQ3.out.ms.old 8 _ (HMy.out 8 _ rfl); have c9 := HQ3.out.ms.old 9 _ (HMy.out 9 _ rfl)
          go_wp2_with fail
          with_reducible refine (C3.out _ HQ3.out.ms.low).mono ?_
          rintro e w4 ⟨rfl, hb4⟩
          have HQ4 : Hid (MQ w mc (mirW (⟨(L : Int), su, gp, 1, banded, lo, hi, front, back, least⟩ : Md)) ga gn gc w1.heap.size va sn vc (mirS L su) wo.heap.size av j cav (s.data.toList.map mirC) w4) := HQ3.out.next hb4
          clear hb4 HQ3 c0 c1 c2 c3 c4 c5 c6 c7 c8 c9
          have d0 := HQ4.out.ms.cell 0 (.int .i64 (L : Int)) rfl; have d1 := HQ4.out.ms.cell 1 (.slice va sn vc) rfl; have d2 := HQ4.out.ms.cell 2 (.slice ga gn gc) rfl; have d3 := HQ4.out.ms.cell 3 (.int .i64 1) rfl; have d4 := HQ4.out.ms.cell 4 (.bool banded) rfl; have d5 := HQ4.out.ms.cell 5 (.int .i64 (wrap64 (-hi))) rfl; have d6 := HQ4.out.ms.cell 6 (.int .i64 (wrap64 (-lo))) rfl; have d7 := HQ4.out.ms.cell 7 (.int .i64 front) rfl; have d8 := HQ4.out.ms.cell 8 (.int .i64 back) rfl; have d9 := HQ4.out.ms.cell 9 (.int .i64 least) rfl
          have hcv := owned_text HQ4.out.tx
          go_wp2_with fail
          with_reducible refine (C4.out _ _ _ _ HQ4.out.ms).mono ?_
          rintro e w5 ⟨rfl, hb5⟩
          have HQ5 : Hid (MQ w mc (mirW (⟨(L : Int), su, gp, 1, banded, lo, hi, front, back, least⟩ : Md)) ga gn gc w1.heap.size va sn vc (mirS L su) wo.heap.size av j cav (s.data.toList.map mirC) w5) := HQ4.out.next hb5
          clear hb5 HQ4 hcv d0 d1 d2 d3 d4 d5 d6 d7 d8 d9
          have ea : (a == a) = true := beq_self_eq_true a
          have er : (re == re) = true := beq_self_eq_true re
          have es : (sv == sv) = true := beq_self_eq_true sv
          have ee : (se == se) = true := beq_self_eq_true se
          go_wp2
          go_ret
          exact ⟨rfl, HQ5.out.ms.low⟩

end Go.Proofs.Ytegndeefddlccab
