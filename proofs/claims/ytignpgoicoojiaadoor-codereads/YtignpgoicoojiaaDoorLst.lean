/-
  The walks of where, step, line, listed, List.
-/
import Derived.Test.YtignpgoicoojiaaDoorBld
import Derived.Test.YtignpgoicoojiaaDoorDrw
import Derived.Lib.AppendIntMem
import Derived.Lib.ItoaLen
import Derived.Deep.Cut
namespace Go.Proofs.YtignpgoicoojiaaDoor
open Go.RowKit

/-- The table of powers, which strconv reads, holds what the program lays there. -/
def TabOk (w : World) : Prop := Lib.TabIs Tryd.prog w "internal/strconv.uint64pow10" .u64 Lib.pow10Tab
theorem TabOk.below {w w' : World} (h : TabOk w) (hb : Below w.heap.size w w') : TabOk w' := Lib.tabBelow_of_tabIs h w' hb
def nameB (l : List (List UInt8)) (n : Int) : List UInt8 := if 0 ≤ n ∧ n < 4 then l.getD n.toNat [] else Lib.itoa n
def whereB (n : Int) : List UInt8 := nameB [[97, 110, 121], [114, 111, 119], [99, 111, 108, 117, 109, 110], [99, 111, 114, 110, 101, 114]] n
def stepB (n : Int) : List UInt8 := nameB [[104, 101, 114, 101], [77], [68], [73]] n
def lineB (q : Qd) : List UInt8 :=
  let a := Lib.itoa q.2.1
  let b := Lib.itoa q.2.2.1
  if q.1 = 1 then [110, 111, 110, 101, 32, 114] ++ a
  else if q.1 = 2 then [115, 116, 97, 114, 116, 32, 114] ++ a ++ [32, 99] ++ b ++ [32] ++ whereB q.2.2.2
  else if q.1 = 3 then [108, 111, 97, 100, 32, 114] ++ a ++ [32, 112] ++ b ++ [32] ++ stepB q.2.2.2
  else if q.1 = 4 then [97, 100, 100, 32, 114] ++ a ++ [32, 99] ++ b
  else if q.1 = 5 then [116, 97, 98, 108, 101, 32, 114] ++ a
  else if q.1 = 6 then [109, 101, 101, 116, 32, 114] ++ a ++ [32, 114] ++ b ++ [32, 98] ++ Lib.itoa q.2.2.2
  else if q.1 = 7 then [107, 101, 101, 112, 32, 112] ++ a ++ [32, 114] ++ b
  else [101, 110, 100, 32, 112] ++ a ++ [32, 99] ++ b ++ [32] ++ whereB q.2.2.2
def listB (l : List Qd) : List UInt8 := l.flatMap fun q => lineB q ++ [10]
def fitI (z : Int) : Prop := -9223372036854775808 ≤ z ∧ z ≤ 9223372036854775807
def StrC (fn : FuncId) (args : Array Value) (l : List UInt8) (w : World) : Prop :=
  Calls Tryd.prog fn args w fun e w' => ∃ t : ByteArray, e = .returned (.string t) ∧ t.data.toList = l ∧ Below w.heap.size w w'
theorem itoa_calls (z : Int) (hz : fitI z) (w : World) (ht : TabOk w) : StrC 60 #[.int .i64 z] (Lib.itoa z) w := by
  refine (Tryd.strconv_Itoa z hz.1 hz.2 w ht).mono ?_
  rintro e w' ⟨rfl, k, os, rfl⟩
  exact ⟨_, rfl, by simp, Lib.below_grow _ _ (Nat.le_refl _) _ _⟩
theorem itoa_len {z : Int} (hz : fitI z) : (Lib.itoa z).length ≤ 21 := Lib.itoa_length_le z hz.1 hz.2
theorem nameB_len {l : List (List UInt8)} (hl : ∀ x ∈ l, x.length ≤ 21) {z : Int} (hz : fitI z) : (nameB l z).length ≤ 21 := by
  unfold nameB
  split
  · rw [List.getD]
    cases h : l[z.toNat]? with
    | none => simp
    | some x => exact hl x (List.mem_of_getElem? h)
  · exact itoa_len hz
theorem cat_ex (x y : ByteArray) (h : x.size + y.size ≤ 1099511627776) : ∃ c : ByteArray, c.data.toList = x.data.toList ++ y.data.toList ∧ c.size = x.size + y.size ∧ ∀ W, (Op.stringOp .add x y).run Tryd.prog W = .ok (.string c) W :=
  ⟨x ++ y, by simp, by simp, fun W => run_string_add_sum W _ _ (by omega)⟩
theorem below_drew {B : Nat} {w W : World} (h : Below B w W) : Below B w W.drew := ⟨h.os, h.tape, h.output, h.size, h.block⟩

set_option maxHeartbeats 1000000 in
theorem where_calls (z : Int) (hz : fitI z) (w : World) (ht : TabOk w) : StrC 61 #[.int .i64 z] (whereB z) w := by
  have HI : Hid (StrC 60 #[.int .i64 z] (Lib.itoa z) w) := itoa_calls z hz w ht
  unfold fitI at hz
  clear ht
  by_cases h0 : z = 0
  · subst h0
    unfold StrC
    clear HI
    go_enter Tryd.func61, Tryd.ntmps61
    go_wp2
    go_ret
    exact ⟨_, rfl, rfl, Below.refl _ _⟩
  by_cases h1 : z = 1
  · subst h1
    unfold StrC
    clear HI
    go_enter Tryd.func61, Tryd.ntmps61
    go_wp2
    go_ret
    exact ⟨_, rfl, rfl, Below.refl _ _⟩
  by_cases h2 : z = 2
  · subst h2
    unfold StrC
    clear HI
    go_enter Tryd.func61, Tryd.ntmps61
    go_wp2
    go_ret
    exact ⟨_, rfl, rfl, Below.refl _ _⟩
  by_cases h3 : z = 3
  · subst h3
    unfold StrC
    clear HI
    go_enter Tryd.func61, Tryd.ntmps61
    go_wp2
    go_ret
    exact ⟨_, rfl, rfl, Below.refl _ _⟩
  have e0 : (z == 0) = false := by simpa using h0
  have e1 : (z == 1) = false := by simpa using h1
  have e2 : (z == 2) = false := by simpa using h2
  have e3 : (z == 3) = false := by simpa using h3
  have HE : Hid (whereB z = Lib.itoa z) := by show nameB _ _ = _; rw [nameB, if_neg (by omega)]
  clear h0 h1 h2 h3
  unfold StrC
  go_enter Tryd.func61, Tryd.ntmps61
  go_wp2_with fail
  refine HI.out.mono ?_
  rintro e w1 ⟨t, rfl, hts, hb⟩
  have HT : Hid (t.data.toList = Lib.itoa z ∧ Below w.heap.size w w1) := ⟨hts, hb⟩
  clear hts hb HI
  go_wp2
  go_ret
  exact ⟨_, rfl, by rw [HE.out]; exact HT.out.1, HT.out.2⟩

set_option maxHeartbeats 1000000 in
theorem step_calls (z : Int) (hz : fitI z) (w : World) (ht : TabOk w) : StrC 62 #[.int .i64 z] (stepB z) w := by
  have HI : Hid (StrC 60 #[.int .i64 z] (Lib.itoa z) w) := itoa_calls z hz w ht
  unfold fitI at hz
  clear ht
  by_cases h0 : z = 0
  · subst h0
    unfold StrC
    clear HI
    go_enter Tryd.func62, Tryd.ntmps62
    go_wp2
    go_ret
    exact ⟨_, rfl, rfl, Below.refl _ _⟩
  by_cases h1 : z = 1
  · subst h1
    unfold StrC
    clear HI
    go_enter Tryd.func62, Tryd.ntmps62
    go_wp2
    go_ret
    exact ⟨_, rfl, rfl, Below.refl _ _⟩
  by_cases h2 : z = 2
  · subst h2
    unfold StrC
    clear HI
    go_enter Tryd.func62, Tryd.ntmps62
    go_wp2
    go_ret
    exact ⟨_, rfl, rfl, Below.refl _ _⟩
  by_cases h3 : z = 3
  · subst h3
    unfold StrC
    clear HI
    go_enter Tryd.func62, Tryd.ntmps62
    go_wp2
    go_ret
    exact ⟨_, rfl, rfl, Below.refl _ _⟩
  have e0 : (z == 0) = false := by simpa using h0
  have e1 : (z == 1) = false := by simpa using h1
  have e2 : (z == 2) = false := by simpa using h2
  have e3 : (z == 3) = false := by simpa using h3
  have HE : Hid (stepB z = Lib.itoa z) := by show nameB _ _ = _; rw [nameB, if_neg (by omega)]
  clear h0 h1 h2 h3
  unfold StrC
  go_enter Tryd.func62, Tryd.ntmps62
  go_wp2_with fail
  refine HI.out.mono ?_
  rintro e w1 ⟨t, rfl, hts, hb⟩
  have HT : Hid (t.data.toList = Lib.itoa z ∧ Below w.heap.size w w1) := ⟨hts, hb⟩
  clear hts hb HI
  go_wp2
  go_ret
  exact ⟨_, rfl, by rw [HE.out]; exact HT.out.1, HT.out.2⟩

theorem whereB_len {z : Int} (hz : fitI z) : (whereB z).length ≤ 21 := nameB_len (by simp) hz
theorem stepB_len {z : Int} (hz : fitI z) : (stepB z).length ≤ 21 := nameB_len (by simp) hz
/-- A box of four, and what lies below. -/
structure QB (w : World) (o x y z : Int) (W : World) : Prop where
  low : Below w.heap.size w W
  box : W.heap[w.heap.size]? = some (.cells #[.int .i64 o, .int .i64 x, .int .i64 y, .int .i64 z] 38 (0, 0))
theorem QB.next {w : World} {o x y z : Int} {W W2 : World} (h : QB w o x y z W) (hb : Below W.heap.size W W2) : QB w o x y z W2 :=
  ⟨h.low.trans (hb.mono h.low.size), by rw [hb.block _ (lt_block h.box)]; exact h.box⟩
theorem QB.cs {w : World} {o x y z : Int} {W : World} (h : QB w o x y z W) : W.cell? ⟨w.heap.size, 1, none⟩ = some (.int .i64 x) ∧ W.cell? ⟨w.heap.size, 2, none⟩ = some (.int .i64 y) := ⟨cell_block h.box 1 _ rfl, cell_block h.box 2 _ rfl⟩

set_option maxHeartbeats 4000000 in
set_option maxRecDepth 10000 in
theorem line_calls (o x y z : Int) (hx : fitI x) (hy : fitI y) (hz : fitI z) (w : World) (ht : TabOk w) : StrC 48 #[.agg #[.int .i64 o, .int .i64 x, .int .i64 y, .int .i64 z]] (lineB (o, x, y, z)) w := by
  unfold StrC
  have HT : Hid (TabOk w) := ht
  have HX : Hid (fitI x ∧ fitI y ∧ fitI z) := ⟨hx, hy, hz⟩
  clear ht hx hy hz
  go_enter Tryd.func48, Tryd.ntmps48
  go_upto_region 1 with (fail)
  have HQ : Hid (QB w o x y z (w.alloc (.cells #[.int .i64 o, .int .i64 x, .int .i64 y, .int .i64 z] 38)).drew) := ⟨below_drew (below_new _), heap_alloc_new w _⟩
  obtain ⟨g, hg⟩ : ∃ g, w.heap.size = g := ⟨_, rfl⟩
  have HCS := HQ.out.cs
  obtain ⟨wa, hwa⟩ : ∃ wa, w.alloc (.cells #[.int .i64 o, .int .i64 x, .int .i64 y, .int .i64 z] 38) = wa := ⟨_, rfl⟩
  have HWA : Hid (w.alloc (.cells #[.int .i64 o, .int .i64 x, .int .i64 y, .int .i64 z] 38) = wa) := hwa
  rw [hwa] at HQ HCS
  rw [hg] at HCS
  have HG : Hid (w.heap.size = g) := hg
  clear hwa hg
  rw [HWA.out, HG.out]
  refine wp_region_Y (fun j => [].contains j) (fun W : World => (W.cell? ⟨g, 1, none⟩ = some (.int .i64 x) ∧ W.cell? ⟨g, 2, none⟩ = some (.int .i64 y))) (by kernel_rfl) ?_
  refine wpAnyY_pure (i := 0) 5 (v := .pointer (some ⟨g, 1, none⟩)) rfl rfl (by kernel_rfl) (by kernel_rfl) (by kernel_rfl) (fun _ _ _ h => h) (Or.inl ⟨by rfl, by (intro W _; go_simp)⟩) ?_
  simp only [Act.put, List.setIfInBounds_toArray, List.set_cons_succ, List.set_cons_zero]
  refine wpAnyY_pure (i := 3) 8 (v := .pointer (some ⟨g, 2, none⟩)) rfl rfl (by kernel_rfl) (by kernel_rfl) (by kernel_rfl) (fun _ _ _ h => h) (Or.inl ⟨by rfl, by (intro W _; go_simp)⟩) ?_
  simp only [Act.put, List.setIfInBounds_toArray, List.set_cons_succ, List.set_cons_zero]
  refine wpAnyY_takeD (i := 1) 6 (v := .int .i64 x) rfl rfl (by kernel_rfl) (by kernel_rfl) (late_of (by kernel_rfl)) (by kernel_rfl) (by kernel_rfl) (fun _ _ _ h => h) HCS (Or.inl ⟨by rfl, by (intro W hW; obtain ⟨k1, k2⟩ := hW; go_simp)⟩) ?_
  simp only [Act.put, List.setIfInBounds_toArray, List.set_cons_succ, List.set_cons_zero]
  refine wpAnyY_takeD (i := 4) 9 (v := .int .i64 y) rfl rfl (by kernel_rfl) (by kernel_rfl) (late_of (by kernel_rfl)) (by kernel_rfl) (by kernel_rfl) (fun _ _ _ h => h) HCS (Or.inl ⟨by rfl, by (intro W hW; obtain ⟨k1, k2⟩ := hW; go_simp)⟩) ?_
  simp only [Act.put, List.setIfInBounds_toArray, List.set_cons_succ, List.set_cons_zero]
  refine wpAnyY_one (i := 2) rfl (by kernel_rfl) (fun Kc hKc => ?_)
  refine step_fnD 7 rfl (by rfl) 60 _ _ rfl Tryd.f60 Tryd.func60 (by kernel_rfl) (by kernel_rfl) #[.int .i64 x] (by simp [Act.eval]) (show StrC 60 #[.int .i64 x] (Lib.itoa x) _ from itoa_calls x HX.out.1 _ (HT.out.below HQ.out.low)) ?_
  rintro e w1 ⟨ta, rfl, hta, hb1⟩
  have HQ1 : Hid (QB w o x y z w1) := HQ.out.next hb1
  have HTa : Hid (ta.data.toList = Lib.itoa x) := hta
  clear hta hb1
  refine ⟨_, rfl, hKc.out _ _ (fun _ _ => by rw [← HG.out]; exact HQ1.out.cs) ?_⟩
  clear hKc Kc
  simp only [Act.put, List.setIfInBounds_toArray, List.set_cons_succ, List.set_cons_zero]
  refine wpAnyY_one (i := 5) rfl (by kernel_rfl) (fun Kc hKc => ?_)
  refine step_fnD 10 rfl (by rfl) 60 _ _ rfl Tryd.f60 Tryd.func60 (by kernel_rfl) (by kernel_rfl) #[.int .i64 y] (by simp [Act.eval]) (show StrC 60 #[.int .i64 y] (Lib.itoa y) _ from itoa_calls y HX.out.2.1 _ (HT.out.below HQ1.out.low)) ?_
  rintro e w2 ⟨tb, rfl, htb, hb2⟩
  have HQ2 : Hid (QB w o x y z w2) := HQ1.out.next hb2
  have HTb : Hid (tb.data.toList = Lib.itoa y) := htb
  clear htb hb2
  refine ⟨_, rfl, hKc.out _ _ (fun _ _ => by rw [← HG.out]; exact HQ2.out.cs) ?_⟩
  clear hKc Kc
  simp only [Act.put, List.setIfInBounds_toArray, List.set_cons_succ, List.set_cons_zero]
  refine wpAnyY_one (i := 6) rfl (by kernel_rfl) (fun Kc hKc => ?_)
  go_simp
  refine hKc.out _ _ (fun _ h => h) ?_
  clear hKc Kc
  refine wpAnyY_one (i := 7) rfl (by kernel_rfl) (fun Kc hKc => ?_)
  go_simp
  refine hKc.out _ _ (fun _ h => h) ?_
  clear hKc Kc
  refine wpAnyY_done (by kernel_rfl) ?_ _
  have d0 : w2.cell? ⟨g, 0, none⟩ = some (.int .i64 o) := by rw [← HG.out]; exact cell_block HQ2.out.box 0 _ rfl
  have d3 : w2.cell? ⟨g, 3, none⟩ = some (.int .i64 z) := by rw [← HG.out]; exact cell_block HQ2.out.box 3 _ rfl
  have hsa : ta.size ≤ 21 := by rw [← size_toList, HTa.out]; exact itoa_len HX.out.1
  have hsb : tb.size ≤ 21 := by rw [← size_toList, HTb.out]; exact itoa_len HX.out.2.1
  have HW : Hid (StrC 61 #[.int .i64 z] (whereB z) w2) := where_calls z HX.out.2.2 w2 (HT.out.below HQ2.out.low)
  have HS : Hid (StrC 62 #[.int .i64 z] (stepB z) w2) := step_calls z HX.out.2.2 w2 (HT.out.below HQ2.out.low)
  have HI : Hid (StrC 60 #[.int .i64 z] (Lib.itoa z) w2) := itoa_calls z HX.out.2.2 w2 (HT.out.below HQ2.out.low)
  have hlw := whereB_len HX.out.2.2
  have hls := stepB_len HX.out.2.2
  have hli := itoa_len HX.out.2.2
  clear HQ HQ1 HCS HT HX
  by_cases o1 : o = 1
  · have HE : Hid (lineB (o, x, y, z) = [110, 111, 110, 101, 32, 114] ++ Lib.itoa x) := by show _ = _; subst o1; rfl
    have b1 : (o == 1) = true := by simpa using o1
    clear o1
    have hz0 : (⟨#[110, 111, 110, 101, 32, 114]⟩ : ByteArray).size = 6 := rfl
    obtain ⟨c1, hl1, hs1, hr1⟩ := cat_ex ⟨#[110, 111, 110, 101, 32, 114]⟩ ta (by omega)
    have HL1 : Hid (c1.data.toList = (⟨#[110, 111, 110, 101, 32, 114]⟩ : ByteArray).data.toList ++ (ta : ByteArray).data.toList) := hl1
    clear hl1
    go_wp2
    go_ret
    exact ⟨_, rfl, by rw [HL1.out, HTa.out]; exact HE.out.symm, HQ2.out.low⟩
  have b1 : (o == 1) = false := by simpa using o1
  by_cases o2 : o = 2
  · have HE : Hid (lineB (o, x, y, z) = [115, 116, 97, 114, 116, 32, 114] ++ Lib.itoa x ++ [32, 99] ++ Lib.itoa y ++ [32] ++ whereB z) := by show _ = _; subst o2; rfl
    have b2 : (o == 2) = true := by simpa using o2
    clear o2
    have hz0 : (⟨#[115, 116, 97, 114, 116, 32, 114]⟩ : ByteArray).size = 7 := rfl
    have hz2 : (⟨#[32, 99]⟩ : ByteArray).size = 2 := rfl
    have hz4 : (⟨#[32]⟩ : ByteArray).size = 1 := rfl
    obtain ⟨c1, hl1, hs1, hr1⟩ := cat_ex ⟨#[115, 116, 97, 114, 116, 32, 114]⟩ ta (by omega)
    have HL1 : Hid (c1.data.toList = (⟨#[115, 116, 97, 114, 116, 32, 114]⟩ : ByteArray).data.toList ++ (ta : ByteArray).data.toList) := hl1
    clear hl1
    obtain ⟨c2, hl2, hs2, hr2⟩ := cat_ex c1 ⟨#[32, 99]⟩ (by omega)
    have HL2 : Hid (c2.data.toList = (c1 : ByteArray).data.toList ++ (⟨#[32, 99]⟩ : ByteArray).data.toList) := hl2
    clear hl2
    obtain ⟨c3, hl3, hs3, hr3⟩ := cat_ex c2 tb (by omega)
    have HL3 : Hid (c3.data.toList = (c2 : ByteArray).data.toList ++ (tb : ByteArray).data.toList) := hl3
    clear hl3
    obtain ⟨c4, hl4, hs4, hr4⟩ := cat_ex c3 ⟨#[32]⟩ (by omega)
    have HL4 : Hid (c4.data.toList = (c3 : ByteArray).data.toList ++ (⟨#[32]⟩ : ByteArray).data.toList) := hl4
    clear hl4
    clear HS HI
    go_wp2_with fail
    refine HW.out.mono ?_
    rintro e w3 ⟨tc, rfl, htc, hb3⟩
    have hsc : tc.size ≤ 21 := by rw [← size_toList, htc]; exact hlw
    have HTc : Hid (tc.data.toList = _ ∧ Below w.heap.size w w3) := ⟨htc, HQ2.out.low.trans (hb3.mono HQ2.out.low.size)⟩
    clear htc hb3 HW
    obtain ⟨c5, hl5, hs5, hr5⟩ := cat_ex c4 tc (by omega)
    have HL5 : Hid (c5.data.toList = (c4 : ByteArray).data.toList ++ (tc : ByteArray).data.toList) := hl5
    clear hl5
    go_wp2
    go_ret
    exact ⟨_, rfl, by rw [HL5.out, HL4.out, HL3.out, HL2.out, HL1.out, HTa.out, HTb.out, HTc.out.1]; exact HE.out.symm, HTc.out.2⟩
  have b2 : (o == 2) = false := by simpa using o2
  by_cases o3 : o = 3
  · have HE : Hid (lineB (o, x, y, z) = [108, 111, 97, 100, 32, 114] ++ Lib.itoa x ++ [32, 112] ++ Lib.itoa y ++ [32] ++ stepB z) := by show _ = _; subst o3; rfl
    have b3 : (o == 3) = true := by simpa using o3
    clear o3
    have hz0 : (⟨#[108, 111, 97, 100, 32, 114]⟩ : ByteArray).size = 6 := rfl
    have hz2 : (⟨#[32, 112]⟩ : ByteArray).size = 2 := rfl
    have hz4 : (⟨#[32]⟩ : ByteArray).size = 1 := rfl
    obtain ⟨c1, hl1, hs1, hr1⟩ := cat_ex ⟨#[108, 111, 97, 100, 32, 114]⟩ ta (by omega)
    have HL1 : Hid (c1.data.toList = (⟨#[108, 111, 97, 100, 32, 114]⟩ : ByteArray).data.toList ++ (ta : ByteArray).data.toList) := hl1
    clear hl1
    obtain ⟨c2, hl2, hs2, hr2⟩ := cat_ex c1 ⟨#[32, 112]⟩ (by omega)
    have HL2 : Hid (c2.data.toList = (c1 : ByteArray).data.toList ++ (⟨#[32, 112]⟩ : ByteArray).data.toList) := hl2
    clear hl2
    obtain ⟨c3, hl3, hs3, hr3⟩ := cat_ex c2 tb (by omega)
    have HL3 : Hid (c3.data.toList = (c2 : ByteArray).data.toList ++ (tb : ByteArray).data.toList) := hl3
    clear hl3
    obtain ⟨c4, hl4, hs4, hr4⟩ := cat_ex c3 ⟨#[32]⟩ (by omega)
    have HL4 : Hid (c4.data.toList = (c3 : ByteArray).data.toList ++ (⟨#[32]⟩ : ByteArray).data.toList) := hl4
    clear hl4
    clear HW HI
    go_wp2_with fail
    refine HS.out.mono ?_
    rintro e w3 ⟨tc, rfl, htc, hb3⟩
    have hsc : tc.size ≤ 21 := by rw [← size_toList, htc]; exact hls
    have HTc : Hid (tc.data.toList = _ ∧ Below w.heap.size w w3) := ⟨htc, HQ2.out.low.trans (hb3.mono HQ2.out.low.size)⟩
    clear htc hb3 HS
    obtain ⟨c5, hl5, hs5, hr5⟩ := cat_ex c4 tc (by omega)
    have HL5 : Hid (c5.data.toList = (c4 : ByteArray).data.toList ++ (tc : ByteArray).data.toList) := hl5
    clear hl5
    go_wp2
    go_ret
    exact ⟨_, rfl, by rw [HL5.out, HL4.out, HL3.out, HL2.out, HL1.out, HTa.out, HTb.out, HTc.out.1]; exact HE.out.symm, HTc.out.2⟩
  have b3 : (o == 3) = false := by simpa using o3
  by_cases o4 : o = 4
  · have HE : Hid (lineB (o, x, y, z) = [97, 100, 100, 32, 114] ++ Lib.itoa x ++ [32, 99] ++ Lib.itoa y) := by show _ = _; subst o4; rfl
    have b4 : (o == 4) = true := by simpa using o4
    clear o4
    have hz0 : (⟨#[97, 100, 100, 32, 114]⟩ : ByteArray).size = 5 := rfl
    have hz2 : (⟨#[32, 99]⟩ : ByteArray).size = 2 := rfl
    obtain ⟨c1, hl1, hs1, hr1⟩ := cat_ex ⟨#[97, 100, 100, 32, 114]⟩ ta (by omega)
    have HL1 : Hid (c1.data.toList = (⟨#[97, 100, 100, 32, 114]⟩ : ByteArray).data.toList ++ (ta : ByteArray).data.toList) := hl1
    clear hl1
    obtain ⟨c2, hl2, hs2, hr2⟩ := cat_ex c1 ⟨#[32, 99]⟩ (by omega)
    have HL2 : Hid (c2.data.toList = (c1 : ByteArray).data.toList ++ (⟨#[32, 99]⟩ : ByteArray).data.toList) := hl2
    clear hl2
    obtain ⟨c3, hl3, hs3, hr3⟩ := cat_ex c2 tb (by omega)
    have HL3 : Hid (c3.data.toList = (c2 : ByteArray).data.toList ++ (tb : ByteArray).data.toList) := hl3
    clear hl3
    go_wp2
    go_ret
    exact ⟨_, rfl, by rw [HL3.out, HL2.out, HL1.out, HTa.out, HTb.out]; exact HE.out.symm, HQ2.out.low⟩
  have b4 : (o == 4) = false := by simpa using o4
  by_cases o5 : o = 5
  · have HE : Hid (lineB (o, x, y, z) = [116, 97, 98, 108, 101, 32, 114] ++ Lib.itoa x) := by show _ = _; subst o5; rfl
    have b5 : (o == 5) = true := by simpa using o5
    clear o5
    have hz0 : (⟨#[116, 97, 98, 108, 101, 32, 114]⟩ : ByteArray).size = 7 := rfl
    obtain ⟨c1, hl1, hs1, hr1⟩ := cat_ex ⟨#[116, 97, 98, 108, 101, 32, 114]⟩ ta (by omega)
    have HL1 : Hid (c1.data.toList = (⟨#[116, 97, 98, 108, 101, 32, 114]⟩ : ByteArray).data.toList ++ (ta : ByteArray).data.toList) := hl1
    clear hl1
    go_wp2
    go_ret
    exact ⟨_, rfl, by rw [HL1.out, HTa.out]; exact HE.out.symm, HQ2.out.low⟩
  have b5 : (o == 5) = false := by simpa using o5
  by_cases o6 : o = 6
  · have HE : Hid (lineB (o, x, y, z) = [109, 101, 101, 116, 32, 114] ++ Lib.itoa x ++ [32, 114] ++ Lib.itoa y ++ [32, 98] ++ Lib.itoa z) := by show _ = _; subst o6; rfl
    have b6 : (o == 6) = true := by simpa using o6
    clear o6
    have hz0 : (⟨#[109, 101, 101, 116, 32, 114]⟩ : ByteArray).size = 6 := rfl
    have hz2 : (⟨#[32, 114]⟩ : ByteArray).size = 2 := rfl
    have hz4 : (⟨#[32, 98]⟩ : ByteArray).size = 2 := rfl
    obtain ⟨c1, hl1, hs1, hr1⟩ := cat_ex ⟨#[109, 101, 101, 116, 32, 114]⟩ ta (by omega)
    have HL1 : Hid (c1.data.toList = (⟨#[109, 101, 101, 116, 32, 114]⟩ : ByteArray).data.toList ++ (ta : ByteArray).data.toList) := hl1
    clear hl1
    obtain ⟨c2, hl2, hs2, hr2⟩ := cat_ex c1 ⟨#[32, 114]⟩ (by omega)
    have HL2 : Hid (c2.data.toList = (c1 : ByteArray).data.toList ++ (⟨#[32, 114]⟩ : ByteArray).data.toList) := hl2
    clear hl2
    obtain ⟨c3, hl3, hs3, hr3⟩ := cat_ex c2 tb (by omega)
    have HL3 : Hid (c3.data.toList = (c2 : ByteArray).data.toList ++ (tb : ByteArray).data.toList) := hl3
    clear hl3
    obtain ⟨c4, hl4, hs4, hr4⟩ := cat_ex c3 ⟨#[32, 98]⟩ (by omega)
    have HL4 : Hid (c4.data.toList = (c3 : ByteArray).data.toList ++ (⟨#[32, 98]⟩ : ByteArray).data.toList) := hl4
    clear hl4
    clear HW HS
    go_wp2_with fail
    refine HI.out.mono ?_
    rintro e w3 ⟨tc, rfl, htc, hb3⟩
    have hsc : tc.size ≤ 21 := by rw [← size_toList, htc]; exact hli
    have HTc : Hid (tc.data.toList = _ ∧ Below w.heap.size w w3) := ⟨htc, HQ2.out.low.trans (hb3.mono HQ2.out.low.size)⟩
    clear htc hb3 HI
    obtain ⟨c5, hl5, hs5, hr5⟩ := cat_ex c4 tc (by omega)
    have HL5 : Hid (c5.data.toList = (c4 : ByteArray).data.toList ++ (tc : ByteArray).data.toList) := hl5
    clear hl5
    go_wp2
    go_ret
    exact ⟨_, rfl, by rw [HL5.out, HL4.out, HL3.out, HL2.out, HL1.out, HTa.out, HTb.out, HTc.out.1]; exact HE.out.symm, HTc.out.2⟩
  have b6 : (o == 6) = false := by simpa using o6
  by_cases o7 : o = 7
  · have HE : Hid (lineB (o, x, y, z) = [107, 101, 101, 112, 32, 112] ++ Lib.itoa x ++ [32, 114] ++ Lib.itoa y) := by show _ = _; subst o7; rfl
    have b7 : (o == 7) = true := by simpa using o7
    clear o7
    have hz0 : (⟨#[107, 101, 101, 112, 32, 112]⟩ : ByteArray).size = 6 := rfl
    have hz2 : (⟨#[32, 114]⟩ : ByteArray).size = 2 := rfl
    obtain ⟨c1, hl1, hs1, hr1⟩ := cat_ex ⟨#[107, 101, 101, 112, 32, 112]⟩ ta (by omega)
    have HL1 : Hid (c1.data.toList = (⟨#[107, 101, 101, 112, 32, 112]⟩ : ByteArray).data.toList ++ (ta : ByteArray).data.toList) := hl1
    clear hl1
    obtain ⟨c2, hl2, hs2, hr2⟩ := cat_ex c1 ⟨#[32, 114]⟩ (by omega)
    have HL2 : Hid (c2.data.toList = (c1 : ByteArray).data.toList ++ (⟨#[32, 114]⟩ : ByteArray).data.toList) := hl2
    clear hl2
    obtain ⟨c3, hl3, hs3, hr3⟩ := cat_ex c2 tb (by omega)
    have HL3 : Hid (c3.data.toList = (c2 : ByteArray).data.toList ++ (tb : ByteArray).data.toList) := hl3
    clear hl3
    go_wp2
    go_ret
    exact ⟨_, rfl, by rw [HL3.out, HL2.out, HL1.out, HTa.out, HTb.out]; exact HE.out.symm, HQ2.out.low⟩
  have b7 : (o == 7) = false := by simpa using o7
  have HE : Hid (lineB (o, x, y, z) = [101, 110, 100, 32, 112] ++ Lib.itoa x ++ [32, 99] ++ Lib.itoa y ++ [32] ++ whereB z) := by show _ = _; simp only [lineB, if_neg o1, if_neg o2, if_neg o3, if_neg o4, if_neg o5, if_neg o6, if_neg o7]
  clear o1 o2 o3 o4 o5 o6 o7
  have hz0 : (⟨#[101, 110, 100, 32, 112]⟩ : ByteArray).size = 5 := rfl
  have hz2 : (⟨#[32, 99]⟩ : ByteArray).size = 2 := rfl
  have hz4 : (⟨#[32]⟩ : ByteArray).size = 1 := rfl
  obtain ⟨c1, hl1, hs1, hr1⟩ := cat_ex ⟨#[101, 110, 100, 32, 112]⟩ ta (by omega)
  have HL1 : Hid (c1.data.toList = (⟨#[101, 110, 100, 32, 112]⟩ : ByteArray).data.toList ++ (ta : ByteArray).data.toList) := hl1
  clear hl1
  obtain ⟨c2, hl2, hs2, hr2⟩ := cat_ex c1 ⟨#[32, 99]⟩ (by omega)
  have HL2 : Hid (c2.data.toList = (c1 : ByteArray).data.toList ++ (⟨#[32, 99]⟩ : ByteArray).data.toList) := hl2
  clear hl2
  obtain ⟨c3, hl3, hs3, hr3⟩ := cat_ex c2 tb (by omega)
  have HL3 : Hid (c3.data.toList = (c2 : ByteArray).data.toList ++ (tb : ByteArray).data.toList) := hl3
  clear hl3
  obtain ⟨c4, hl4, hs4, hr4⟩ := cat_ex c3 ⟨#[32]⟩ (by omega)
  have HL4 : Hid (c4.data.toList = (c3 : ByteArray).data.toList ++ (⟨#[32]⟩ : ByteArray).data.toList) := hl4
  clear hl4
  clear HS HI
  go_wp2_with fail
  refine HW.out.mono ?_
  rintro e w3 ⟨tc, rfl, htc, hb3⟩
  have hsc : tc.size ≤ 21 := by rw [← size_toList, htc]; exact hlw
  have HTc : Hid (tc.data.toList = _ ∧ Below w.heap.size w w3) := ⟨htc, HQ2.out.low.trans (hb3.mono HQ2.out.low.size)⟩
  clear htc hb3 HW
  obtain ⟨c5, hl5, hs5, hr5⟩ := cat_ex c4 tc (by omega)
  have HL5 : Hid (c5.data.toList = (c4 : ByteArray).data.toList ++ (tc : ByteArray).data.toList) := hl5
  clear hl5
  go_wp2
  go_ret
  exact ⟨_, rfl, by rw [HL5.out, HL4.out, HL3.out, HL2.out, HL1.out, HTa.out, HTb.out, HTc.out.1]; exact HE.out.symm, HTc.out.2⟩

end Go.Proofs.YtignpgoicoojiaaDoor
