/-
  Bytes turned round in place, and the text of them. The path back, from a set of planes at a cell. The walk of Walk.
-/
import Derived.Shelf.SlicesE.Reverse
import Derived.Lib.RowBridge
import Derived.Lib.LazyBuf
import Derived.Laws.IdiomStrings
import Derived.Test.YtnkfibahkmmnpaaGreatKp
namespace Go.Proofs.YtnkfibahkmmnpaaGreat
open Go.RowKit Go.Deep Go.Maps


def revR : Go.Shelf.Ren := ⟨fun | 35 => 44 | n => n, fun | 0 => 0 | 3 => 3 | 4 => 4 | 22 => 75 | 23 => 5 | n => n, fun | n => n⟩
theorem revL : Go.Proofs.SlLaysE.n35 Tryz.prog revR := {
  mixed := by kernel_rfl
  f35 := ⟨Tryz.f44.name, by kernel_rfl, Tryz.func44.trans (congrArg some (by kernel_rfl))⟩
  t0 := Tryz.underlying0
  a0 := Tryz.isAgg0
  z0 := Tryz.sizeOf0
  v0 := Tryz.zeroValue0
  t3 := Tryz.underlying3
  a3 := Tryz.isAgg3
  z3 := Tryz.sizeOf3
  v3 := Tryz.zeroValue3
  t4 := Tryz.underlying4
  a4 := Tryz.isAgg4
  z4 := Tryz.sizeOf4
  v4 := Tryz.zeroValue4
  t22 := Tryz.underlying75
  a22 := Tryz.isAgg75
  z22 := Tryz.sizeOf75
  v22 := Tryz.zeroValue75
  a23 := Tryz.isAgg5
  z23 := Tryz.sizeOf5 }
def u8E (b : UInt8) : Value := .int .u8 (b.toNat : Int)
def byE (l : List UInt8) : List Value := l.map u8E
theorem byE_snoc (l : List UInt8) (c : UInt8) : byE (l ++ [c]) = byE l ++ [u8E c] := by simp [byE]
theorem info5E : (Tryz.prog.info? 5).map (fun i => (i.zero, i.size, i.bytes)) = some (some (.int .u8 0), 1, 1) := by kernel_rfl
theorem u8_new (W : World) (c : UInt8) : ∀ (i : Nat) (u : Value), [u8E c][i]? = some u → (W.alloc (.cells #[.int .u8 (c.toNat : Int)] 5)).cell? ((⟨W.heap.size, 0, none⟩ : Addr).add i) = some u := cells_new4 W [u8E c] 5
theorem u8_one (c : UInt8) : ∀ u ∈ [u8E c], u.oneCell' = true := by
  intro u hu
  rw [List.mem_singleton.1 hu]
  rfl
/-- Behind it all that hangs on the memory alone tells the text. -/
theorem rev_calls {w : World} {B : Nat} {ao : Option Addr} {n cap : Nat} (t : List UInt8) (h : w.ownsRow B 5 1 (.slice ao n cap) n (byE t)) (hn : n ≤ 1048576) :
    Calls Tryz.prog 44 #[.slice ao n cap] w fun e w' => e = .returned (.tuple #[]) ∧ Below B w w' ∧ ∀ V : World, V.heap = w'.heap → (convert 75 9 (.slice ao n cap)).run Tryz.prog V = .ok (.string ⟨t.reverse.toArray⟩) V := by
  have hl : t.length = n := by have := h.1; simpa [byE] using this
  rcases h.2 with ⟨hv, h0⟩ | ⟨g, cap', cur, hv, hb, hg, -⟩
  · cases hv
    have ht : t = [] := List.eq_nil_of_length_eq_zero hl
    subst ht
    refine (AnyE.slices_Reverse_empty revL none 0 w).mono ?_
    rintro e w' ⟨rfl, rfl⟩
    refine ⟨rfl, Below.refl _ _, fun V _ => ?_⟩
    rw [run_convert_bytes_string V 75 9 5 none 0 0 Tryz.underlying75 Tryz.underlying5 Tryz.underlying9]
    rfl
  · cases hv
    subst hl
    have hc : ∀ j (hj : j < t.length), w.cell? ⟨g, 0 + j, none⟩ = some (u8E t[j]) := fun j hj => by
      rw [Nat.zero_add, h.cellAt j (by omega)]
      simp [byE, hj]
    have hH : Go.Sort.Holds u8E w g 0 t.toArray := fun j hj => by
      have hj' : j < t.length := by simpa using hj
      rw [getElem!_pos t.toArray j hj]
      exact ⟨by rw [hc j hj']; simp, by rw [Nat.zero_add]; exact frozen_of_row w g j cur 5 hg⟩
    refine (AnyE.slices_Reverse revL u8E (fun x => rfl) g 0 cap t w hH (by omega)).mono ?_
    rintro e w' ⟨rfl, q, hw⟩
    rw [Lib.putRow_eq_setCells u8E w g 0 t.toArray t.reverse q hH (by simp)] at hw
    subst hw
    refine ⟨rfl, below_setCells hb _ _ _ (below_drewN (Below.refl _ _) q), fun V hV => ?_⟩
    have := run_convert_bytes_back (P := Tryz.prog) V 75 9 5 ⟨g, 0, none⟩ cap t.reverse Tryz.underlying75 Tryz.underlying5 Tryz.underlying9 (fun j hj => by
      have hadd : (⟨g, 0, none⟩ : Addr).add j = ⟨g, 0 + j, none⟩ := by unfold Addr.add; split <;> simp_all
      have hcell : V.cell? ⟨g, 0 + j, none⟩ = ((w.drewN q).setCells g 0 (t.reverse.map u8E)).cell? ⟨g, 0 + j, none⟩ := by
        unfold World.cell?
        rw [hV]
      rw [hadd, hcell, World.cell?_setCells_in g (t.reverse.map u8E) 0 (w.drewN q) (fun i hi => by
        have hi' : i < t.length := by simpa using hi
        show (w.cell? ⟨g, 0 + i, none⟩).isSome = true
        rw [hc i hi']; rfl) j (by simpa using hj)]
      simp [u8E])
    rw [List.length_reverse] at this
    exact this
end Go.Proofs.YtnkfibahkmmnpaaGreat
namespace Go.Proofs.YtnkfibahkmmnpaaGreat
open Go.RowKit Go.Deep Go.Maps

def putV (s : Nat → Bool) (p : Nat) (v : Bool) : Nat → Bool := fun q => if q = p then v else s q
theorem wk_put (g : Nat) (sa : Sl) (i j : Int) (s : Nat → Bool) {p : Nat} (hp : p < 10) (v : Bool) : (wkCells g sa i j s).setIfInBounds (4 + p) (.bool v) = wkCells g sa i j (putV s p v) := by
  have : p = 0 ∨ p = 1 ∨ p = 2 ∨ p = 3 ∨ p = 4 ∨ p = 5 ∨ p = 6 ∨ p = 7 ∨ p = 8 ∨ p = 9 := by omega
  rcases this with rfl | rfl | rfl | rfl | rfl | rfl | rfl | rfl | rfl | rfl <;> rfl
theorem wk_all (g : Nat) (sa : Sl) (i j : Int) (s r : Nat → Bool) : wkCells g sa i j (putV (putV (putV (putV (putV (putV (putV (putV (putV (putV s 0 (r 0)) 1 (r 1)) 2 (r 2)) 3 (r 3)) 4 (r 4)) 5 (r 5)) 6 (r 6)) 7 (r 7)) 8 (r 8)) 9 (r 9)) = wkCells g sa i j r := rfl
def planed (W : World) (b : Nat) (r : Nat → Bool) : World := ((((((((((W.setCell ⟨b, 4, none⟩ (.bool (r 0))).setCell ⟨b, 5, none⟩ (.bool (r 1))).setCell ⟨b, 6, none⟩ (.bool (r 2))).setCell ⟨b, 7, none⟩ (.bool (r 3))).setCell ⟨b, 8, none⟩ (.bool (r 4))).setCell ⟨b, 9, none⟩ (.bool (r 5))).setCell ⟨b, 10, none⟩ (.bool (r 6))).setCell ⟨b, 11, none⟩ (.bool (r 7))).setCell ⟨b, 12, none⟩ (.bool (r 8))).setCell ⟨b, 13, none⟩ (.bool (r 9)))
section
variable {w0 w W V : World} {b g : Nat} {sa : Sl} {i j : Int} {s : Nat → Bool}
theorem Wb.putP (h : Wb w0 W b g sa i j s) {p : Nat} (hp : p < 10) (v : Bool) : Wb w0 (W.setCell ⟨b, 4 + p, none⟩ (.bool v)) b g sa i j (putV s p v) :=
  ⟨by rw [heap_setCell_same _ _ _ _ _ _ h.box, wk_put _ _ _ _ _ hp], h.low.setCell (p := ⟨b, 4 + p, none⟩) h.le _, h.le⟩
theorem Wb.planes (h : Wb w0 W b g sa i j s) (r : Nat → Bool) : Wb w0 (planed W b r) b g sa i j r := by
  have z0 := h.putP (p := 0) (by omega) (r 0)
  have z1 := z0.putP (p := 1) (by omega) (r 1)
  have z2 := z1.putP (p := 2) (by omega) (r 2)
  have z3 := z2.putP (p := 3) (by omega) (r 3)
  have z4 := z3.putP (p := 4) (by omega) (r 4)
  have z5 := z4.putP (p := 5) (by omega) (r 5)
  have z6 := z5.putP (p := 6) (by omega) (r 6)
  have z7 := z6.putP (p := 7) (by omega) (r 7)
  have z8 := z7.putP (p := 8) (by omega) (r 8)
  have z9 := z8.putP (p := 9) (by omega) (r 9)
  exact ⟨by have z := z9.box; rw [wk_all] at z; exact z, z9.low, h.le⟩
theorem planed_other (W : World) (b : Nat) (r : Nat → Bool) {t : Nat} (ht : t ≠ b) : (planed W b r).heap[t]? = W.heap[t]? := by
  unfold planed
  have key : ∀ (W : World) (k : Nat) (v : Value), (W.setCell ⟨b, k, none⟩ v).heap[t]? = W.heap[t]? := fun W k v => Below.heap_setCell _ _ _ _ ht
  rw [key, key, key, key, key, key, key, key, key, key]
/-- The walk so far: its box, the result's, the bytes gone. -/
structure Pw (w0 w W : World) (b g : Nat) (sa : Sl) (i j : Int) (s : Nat → Bool) (ao : Option Addr) (cap : Nat) (t : List UInt8) : Prop where
  wb : Wb w0 W b g sa i j s
  oth : ∀ k, k < w.heap.size → k ≠ b → W.heap[k]? = w.heap[k]?
  res : W.heap[w.heap.size]? = some (.cells #[.int .i64 0, .int .i64 0, .string ⟨#[]⟩] 37 (0, 0))
  own : W.ownsRow (w.heap.size + 1) 5 1 (.slice ao t.length cap) t.length (byE t)
variable {ao : Option Addr} {cap : Nat} {t : List UInt8}
theorem Pw.next (h : Pw w0 w W b g sa i j s ao cap t) (hb : Below W.heap.size W V) : Pw w0 w V b g sa i j s ao cap t := by
  have hz := lt_block h.res
  exact ⟨h.wb.next hb, fun k hk hkb => by rw [hb.block _ (by omega)]; exact h.oth k hk hkb, by rw [hb.block _ hz]; exact h.res, owned_below h.own hb⟩
theorem Pw.turn (h : Pw w0 w W b g sa i j s ao cap t) (hl : b < w.heap.size) {i' j' : Int} {s' : Nat → Bool} (hw : Wb w0 V b g sa i' j' s') (ho : ∀ k, k ≠ b → V.heap[k]? = W.heap[k]?) : Pw w0 w V b g sa i' j' s' ao cap t :=
  ⟨hw, fun k hk hkb => by rw [ho k hkb]; exact h.oth k hk hkb, by rw [ho _ (by omega)]; exact h.res, owned_of_block h.own fun gg cur hv hg => ho gg (fun e => by
    have := h.own.lt gg hv
    omega)⟩
theorem Pw.grown (h : Pw w0 w W b g sa i j s ao cap t) (hl : b < w.heap.size) (hg : W.grownBy V (Value.slice ao t.length cap).ownBlock) {ao2 : Option Addr} {cap2 : Nat} {t2 : List UInt8} (ho : V.ownsRow (w.heap.size + 1) 5 1 (.slice ao2 t2.length cap2) t2.length (byE t2)) : Pw w0 w V b g sa i j s ao2 cap2 t2 := by
  have hz := lt_block h.res
  have hne : ∀ k, k < w.heap.size + 1 → some k ≠ (Value.slice ao t.length cap).ownBlock := fun k hk e => by have := (h.own.lt k e.symm).1; omega
  refine ⟨⟨by rw [hg.block _ (by omega) (hne _ (by omega))]; exact h.wb.box, h.wb.low.grown hg (by have := h.wb.low.size; omega) (fun k hk => by have := (h.own.lt k hk).1; have := h.wb.le; omega), h.wb.le⟩, fun k hk hkb => by rw [hg.block _ (by omega) (hne _ (by omega))]; exact h.oth k hk hkb, by rw [hg.block _ hz (hne _ (by omega))]; exact h.res, ho⟩
theorem own_ne {B n f : Nat} {v : Value} {l : List Value} {cs : Array Value} (h : W.ownsRow B 5 1 v n l) (hf : W.heap[f]? = some (.cells cs 70 (0, 0))) : some f ≠ v.ownBlock := by
  intro e
  rcases h.2 with ⟨hv, _⟩ | ⟨g', cap', cur', hv, _, hg', _⟩
  · rw [hv] at e; cases e
  · rw [hv] at e; simp [Value.ownBlock] at e; subst e; rw [hg'] at hf; cases hf
def u8O (z : Int) : UInt8 := UInt8.ofNat z.toNat
theorem u8O_col (st : Int) : ((u8O (colB st)).toNat : Int) = colB st := by
  unfold colB u8O
  split
  · rfl
  split <;> rfl
/-- What path tells. -/
def PathPost (c : Cd) (x y : List Int) (i j : Nat) (s : Nat → Bool) (w0 w : World) (b : Nat) (r : Ending) (w' : World) : Prop :=
  r = .returned (.agg #[.int .i64 ((goW c x y (i + j + 1) i j s).2.1 : Int), .int .i64 ((goW c x y (i + j + 1) i j s).2.2 : Int), .string ⟨(((goW c x y (i + j + 1) i j s).1.map u8O).reverse).toArray⟩]) ∧ Below w0.heap.size w0 w' ∧ (∀ k, k < w.heap.size → k ≠ b → w'.heap[k]? = w.heap[k]?) ∧ w.heap.size ≤ w'.heap.size
set_option maxRecDepth 10000 in
set_option maxHeartbeats 4000000 in
theorem path_calls {c : Cd} (hg : Gk c) {x y : List Int} {gs : Nat} {ta : Sl} {st : Int} {e : En} (hT : Tb w0 g gs c.planes.toNat x.length y.length ta (runM c x y).slots e st) (i0 j0 : Nat) (h : Wb w0 w b g sa (i0 : Int) (j0 : Int) s)
    (hx : i0 ≤ x.length ∧ x.length ≤ 65536) (hy : j0 ≤ y.length ∧ y.length ≤ 65536) (hq : w.ownsRow w0.heap.size 79 4 (.slice sa.a sa.n sa.c) sa.n (qdVals c.arrows)) (hw : Wk c x y i0 j0 s) :
    Calls Tryz.prog 22 #[.pointer (some ⟨b, 0, none⟩)] w (PathPost c x y i0 j0 s w0 w b) := by
  have hres : Tryz.f22.results = #[.cell 2 37] := by kernel_rfl
  obtain ⟨i5, hi, hz0, hz1, hz2⟩ := info_parts info5E
  have hbl := lt_block h.box
  obtain ⟨G, hG⟩ : ∃ G, goW c x y (i0 + j0 + 1) i0 j0 s = G := ⟨_, rfl⟩
  have HG : Hid (goW c x y (i0 + j0 + 1) i0 j0 s = G) := hG
  have HWy : Hid (Wy c x y G.1 G.2.1 G.2.2 0 i0 j0 s) := by
    show Wy _ _ _ _ _ _ _ _ _ _
    rw [← hG]; exact Wy.start hw
  have HEn : Hid (G.1.length ≤ i0 + j0) := by
    show _ ≤ _
    rw [← hG]; exact (goW_ends hg _ _ _ _ hw (by omega)).2.2.2
  have HK : Hid (Gk c) := hg
  have HP0 : Hid (Pw w0 w (w.alloc (.cells #[.int .i64 0, .int .i64 0, .string ⟨#[]⟩] 37)) b g sa i0 j0 s none 0 []) :=
    ⟨h.next (below_new _), fun k hk _ => (below_new _).block k hk, heap_alloc_new _ _, ⟨rfl, .inl ⟨rfl, rfl⟩⟩⟩
  have HQ : Hid (∀ W ao cap t (i j : Int) (s : Nat → Bool), Pw w0 w W b g sa i j s ao cap t → QdsAt W sa.a sa.n c.arrows) := fun W ao cap t i j s hP =>
    qds_owned (owned_of_block hq fun gg cur _ hgg => hP.oth gg (lt_block hgg) (fun e => by
      rw [e, h.box] at hgg; cases hgg))
  have HM : Hid (∀ (i j : Int) (p : Int), okN (atB c.planes.toNat x.length y.length (runM c x y).slots p i j)) := fun i j p => by
    unfold atB
    split
    · exact (run_kept hg x y).ok.slots _
    · exact ok_ct0
  have HL : Hid (∀ W ao cap t (i j : Nat) (s : Nat → Bool), Pw w0 w W b g sa (i : Int) (j : Int) s ao cap t → Calls Tryz.prog 42 #[.pointer (some ⟨b, 0, none⟩)] W fun r w' => r = .returned (.tuple #[.int .i64 (leastAt c x y i j s).1, .agg (setC (leastAt c x y i j s).2)]) ∧ Below W.heap.size W w') := fun W ao cap t i j s hP =>
    least_calls hT hP.wb c.arrows (HQ.out W ao cap t i j s hP) (HM.out i j) (fun a ha => by
      have h1 := hg.arw ha
      have h2 := hg.ten
      omega)
  have hx1 := hx.1
  have hx2 := hx.2
  have hy1 := hy.1
  have hy2 := hy.2
  unfold PathPost
  rw [hG]
  clear h hq hw hT hG hg hx hy HM HQ
  go_enter Tryz.func22, Tryz.ntmps22
  go_wp2
  go_loopg [3, 4, 5] (i0 + j0) (fun q gv _ _ wr => ∃ (i j k : Nat) (s : Nat → Bool) (ao : Option Addr) (cap : Nat) (t : List UInt8), q = i + j ∧ gv = .slice ao t.length cap ∧ k ≤ 131072 ∧ t.length ≤ 131072 ∧ i ≤ 65536 ∧ j ≤ 65536 ∧ Hid (t = (G.1.take k).map u8O ∧ t.length = k ∧ Wy c x y G.1 G.2.1 G.2.2 k i j s ∧ Pw w0 w wr b g sa (i : Int) (j : Int) s ao cap t))
  case atStart => exact ⟨i0, j0, 0, s, none, 0, [], rfl, rfl, by omega, by simp, by omega, by omega, by simp, rfl, HWy.out, HP0.out⟩
  case round =>
    clear HP0 HWy
    obtain ⟨i, j, k, s, ao, cap, t, hgk, rfl, hik, htl, hi65, hj65, HL2⟩ := hrel
    cases h0 : s 0 with
    | true =>
      have p0 : wr.cell? ⟨b, 4, none⟩ = some (.bool true) := by rw [← h0]; exact HL2.out.2.2.2.wb.cell 4 _ rfl
      have HF : Hid (G.1.map u8O = t ∧ (G.2.1 : Int) = i ∧ (G.2.2 : Int) = j) := by
        obtain ⟨f1, f2, f3⟩ := HL2.out.2.2.1.fin h0
        refine ⟨?_, by omega, by omega⟩
        rw [HL2.out.1, List.take_of_length_le f1]
      clear h0 HL
      go_wp2_with fail
      refine (rev_calls t HL2.out.2.2.2.own (by omega)).mono ?_
      rintro e w3 ⟨rfl, hb3, hconv⟩
      have hz := lt_block HL2.out.2.2.2.res
      have HB : Hid (Wb w0 w3 b g sa (i : Int) (j : Int) s ∧ (∀ k, k < w.heap.size → k ≠ b → w3.heap[k]? = w.heap[k]?) ∧ w3.heap[w.heap.size]? = some (.cells #[.int .i64 0, .int .i64 0, .string ⟨#[]⟩] 37 (0, 0))) :=
        ⟨⟨by rw [hb3.block _ (by omega)]; exact HL2.out.2.2.2.wb.box, HL2.out.2.2.2.wb.low.trans (hb3.mono (by have := HL2.out.2.2.2.wb.le; omega)), HL2.out.2.2.2.wb.le⟩, fun k hk hkb => by rw [hb3.block _ (by omega)]; exact HL2.out.2.2.2.oth k hk hkb, by rw [hb3.block _ (by omega)]; exact HL2.out.2.2.2.res⟩
      have HX : Hid (∀ W : World, Below w0.heap.size w0 W → (∀ k, k < w.heap.size → k ≠ b → W.heap[k]? = w.heap[k]?) → w.heap.size ≤ W.heap.size → Ending.returned (.agg #[.int .i64 (i : Int), .int .i64 (j : Int), .string ⟨t.reverse.toArray⟩]) = .returned (.agg #[.int .i64 (G.2.1 : Int), .int .i64 (G.2.2 : Int), .string ⟨((G.1.map u8O).reverse).toArray⟩]) ∧ Below w0.heap.size w0 W ∧ (∀ k, k < w.heap.size → k ≠ b → W.heap[k]? = w.heap[k]?) ∧ w.heap.size ≤ W.heap.size) := fun W h1 h2 h3 => ⟨by rw [HF.out.1, HF.out.2.1, HF.out.2.2], h1, h2, h3⟩
      have HS : Hid ((fun W : World => W.cell? ⟨b, 2, none⟩ = some (.int .i64 (i : Int)) ∧ W.cell? ⟨b, 3, none⟩ = some (.int .i64 (j : Int)) ∧ (convert 75 9 (.slice ao t.length cap)).run Tryz.prog W = .ok (.string ⟨t.reverse.toArray⟩) W) w3.drew) := ⟨HB.out.1.cell 2 _ rfl, HB.out.1.cell 3 _ rfl, hconv _ rfl⟩
      clear hconv hb3 HL2 HF p0
      generalize (⟨t.reverse.toArray⟩ : ByteArray) = str at *
      generalize t.length = tl at *
      go_upto_region 7 with (fail)
      refine wp_region_Y (fun j => [11].contains j) (fun W : World => W.cell? ⟨b, 2, none⟩ = some (.int .i64 (i : Int)) ∧ W.cell? ⟨b, 3, none⟩ = some (.int .i64 (j : Int)) ∧ (convert 75 9 (.slice ao tl cap)).run Tryz.prog W = .ok (.string str) W) (by kernel_rfl) ?_
      refine wpAnyY_pure (i := 0) 29 (v := .pointer (some ⟨b, 0, none⟩)) rfl rfl (by kernel_rfl) (by kernel_rfl) (by kernel_rfl) (fun _ _ _ h => h) (Or.inl ⟨by rfl, by (intro W _; go_simp)⟩) ?_
      simp only [Act.put, List.setIfInBounds_toArray, List.set_cons_succ, List.set_cons_zero]
      refine wpAnyY_pure (i := 1) 30 (v := .pointer (some ⟨b, 0, none⟩)) rfl rfl (by kernel_rfl) (by kernel_rfl) (by kernel_rfl) (fun _ _ _ h => h) (Or.inl ⟨by rfl, by (intro W _; go_simp)⟩) ?_
      simp only [Act.put, List.setIfInBounds_toArray, List.set_cons_succ, List.set_cons_zero]
      refine wpAnyY_pure (i := 2) 31 (v := .pointer (some ⟨b, 2, none⟩)) rfl rfl (by kernel_rfl) (by kernel_rfl) (by kernel_rfl) (fun _ _ _ h => h) (Or.inl ⟨by rfl, by (intro W _; go_simp)⟩) ?_
      simp only [Act.put, List.setIfInBounds_toArray, List.set_cons_succ, List.set_cons_zero]
      refine wpAnyY_takeD (i := 3) 32 (v := .int .i64 (i : Int)) rfl rfl (by kernel_rfl) (by kernel_rfl) (late_of (by kernel_rfl)) (by kernel_rfl) (by kernel_rfl) (fun _ _ _ h => h) HS.out (Or.inl ⟨by rfl, by (intro W hW; obtain ⟨e0, e1, e2⟩ := hW; go_simp)⟩) ?_
      simp only [Act.put, List.setIfInBounds_toArray, List.set_cons_succ, List.set_cons_zero]
      refine wpAnyY_pure (i := 4) 33 (v := .pointer (some ⟨b, 0, none⟩)) rfl rfl (by kernel_rfl) (by kernel_rfl) (by kernel_rfl) (fun _ _ _ h => h) (Or.inl ⟨by rfl, by (intro W _; go_simp)⟩) ?_
      simp only [Act.put, List.setIfInBounds_toArray, List.set_cons_succ, List.set_cons_zero]
      refine wpAnyY_pure (i := 5) 34 (v := .pointer (some ⟨b, 0, none⟩)) rfl rfl (by kernel_rfl) (by kernel_rfl) (by kernel_rfl) (fun _ _ _ h => h) (Or.inl ⟨by rfl, by (intro W _; go_simp)⟩) ?_
      simp only [Act.put, List.setIfInBounds_toArray, List.set_cons_succ, List.set_cons_zero]
      refine wpAnyY_pure (i := 6) 35 (v := .pointer (some ⟨b, 3, none⟩)) rfl rfl (by kernel_rfl) (by kernel_rfl) (by kernel_rfl) (fun _ _ _ h => h) (Or.inl ⟨by rfl, by (intro W _; go_simp)⟩) ?_
      simp only [Act.put, List.setIfInBounds_toArray, List.set_cons_succ, List.set_cons_zero]
      refine wpAnyY_takeD (i := 7) 36 (v := .int .i64 (j : Int)) rfl rfl (by kernel_rfl) (by kernel_rfl) (late_of (by kernel_rfl)) (by kernel_rfl) (by kernel_rfl) (fun _ _ _ h => h) HS.out (Or.inl ⟨by rfl, by (intro W hW; obtain ⟨e0, e1, e2⟩ := hW; go_simp)⟩) ?_
      simp only [Act.put, List.setIfInBounds_toArray, List.set_cons_succ, List.set_cons_zero]
      refine wpAnyY_pure (i := 8) 37 (v := .slice ao tl cap) rfl rfl (by kernel_rfl) (by kernel_rfl) (by kernel_rfl) (fun _ _ _ h => h) (Or.inl ⟨by rfl, by (intro W _; go_simp)⟩) ?_
      simp only [Act.put, List.setIfInBounds_toArray, List.set_cons_succ, List.set_cons_zero]
      refine wpAnyY_takeD (i := 9) 38 (v := .string str) rfl rfl (by kernel_rfl) (by kernel_rfl) (late_of (by kernel_rfl)) (by kernel_rfl) (by kernel_rfl) (fun _ _ _ h => h) HS.out (Or.inl ⟨by rfl, by (intro W hW; obtain ⟨e0, e1, e2⟩ := hW; go_simp)⟩) ?_
      simp only [Act.put, List.setIfInBounds_toArray, List.set_cons_succ, List.set_cons_zero]
      refine wpAnyY_pure (i := 10) 39 (v := .agg #[.int .i64 (i : Int), .int .i64 (j : Int), .string str]) rfl rfl (by kernel_rfl) (by kernel_rfl) (by kernel_rfl) (fun _ _ _ h => h) (Or.inl ⟨by rfl, by (intro W _; go_simp)⟩) ?_
      simp only [Act.put, List.setIfInBounds_toArray, List.set_cons_succ, List.set_cons_zero]
      have r0 := cell_block HB.out.2.2 0 _ rfl
      have r1 := cell_block HB.out.2.2 1 _ rfl
      have r2 := cell_block HB.out.2.2 2 _ rfl
      have rf : ∀ k, w3.frozen? ⟨w.heap.size, k, none⟩ = false := fun k => frozen_of_row _ _ k _ _ HB.out.2.2
      refine wpAnyY_one (i := 11) rfl (by kernel_rfl) (fun Kc hKc => ?_)
      go_simp
      refine hKc.out _ _ (fun h => absurd h (by decide)) ?_
      clear hKc Kc
      refine wpAnyY_done (by kernel_rfl) ?_ _
      go_wp2
      refine bodyPost_ret (v := .agg #[.int .i64 (i : Int), .int .i64 (j : Int), .string str]) ?_ rfl (HX.out _ ?_ ?_ ?_)
      · simp only [results, hres]
        go_simp
      · have hle : w0.heap.size ≤ w.heap.size := by have := HB.out.1.le; omega
        exact (((HB.out.1.low.setCell (p := ⟨w.heap.size, 0, none⟩) hle _).setCell (p := ⟨w.heap.size, 1, none⟩) hle _).setCell (p := ⟨w.heap.size, 2, none⟩) hle _).drew
      · intro k hk hkb
        have hne : k ≠ w.heap.size := by omega
        show (((w3.setCell ⟨w.heap.size, 0, none⟩ (.int .i64 (i : Int))).setCell ⟨w.heap.size, 1, none⟩ (.int .i64 (j : Int))).setCell ⟨w.heap.size, 2, none⟩ (.string str)).heap[k]? = _
        rw [Below.heap_setCell _ _ _ _ hne, Below.heap_setCell _ _ _ _ hne, Below.heap_setCell _ _ _ _ hne]
        exact HB.out.2.1 k hk hkb
      · have := lt_block HB.out.2.2
        show w.heap.size ≤ (((w3.setCell ⟨w.heap.size, 0, none⟩ (.int .i64 (i : Int))).setCell ⟨w.heap.size, 1, none⟩ (.int .i64 (j : Int))).setCell ⟨w.heap.size, 2, none⟩ (.string str)).heap.size
        simp
        omega
    | false =>
      have p0 : wr.cell? ⟨b, 4, none⟩ = some (.bool false) := by rw [← h0]; exact HL2.out.2.2.2.wb.cell 4 _ rfl
      obtain ⟨m1, m2, m3, u, v, m4, m5, m6, m7⟩ := HL2.out.2.2.1.more HK.out h0
      have hk1 : k < i0 + j0 := by have := HEn.out; omega
      have hui : u ≤ i ∧ v ≤ j := by rcases back_lex m3 with ⟨z1, z2⟩ | ⟨z1, z2⟩ | ⟨z1, z2⟩ <;> omega
      have hui1 := hui.1
      have hui2 := hui.2
      clear hui
      have HW2 : Hid (Wy c x y G.1 G.2.1 G.2.2 (k + 1) u v (leastAt c x y i j s).2) := m7
      have HT2 : Hid ((G.1.take (k + 1)).map u8O = t ++ [u8O (colB (leastAt c x y i j s).1)]) := by
        show _ = _
        rw [← m2, HL2.out.1, List.take_add_one, List.map_append, List.getD_eq_getElem?_getD, List.getElem?_eq_getElem m1]
        rfl
      have HTL : Hid (t.length = k) := HL2.out.2.1
      have HP1 : Hid (Pw w0 w wr b g sa (i : Int) (j : Int) s ao cap t) := HL2.out.2.2.2
      have HC := HL.out _ _ _ _ i j s HP1.out
      have HU : Hid (((u : Int) = i - (backB (leastAt c x y i j s).1).1) ∧ ((v : Int) = j - (backB (leastAt c x y i j s).1).2)) := ⟨m4, m5⟩
      clear m1 m2 m4 m5 m7 HL2 h0
      generalize leastAt c x y i j s = R at *
      obtain ⟨sp, r⟩ := R
      simp only at HC HW2 HT2 HU m3
      unfold setC at HC
      have HCh : Hid (Calls _ _ _ _ _) := HC
      clear HC
      go_wp2_with fail
      refine HCh.out.mono ?_
      rintro e w2 ⟨rfl, hb2⟩
      have HP2 : Hid (Pw w0 w (w2.alloc (.cells #[.bool (r 0), .bool (r 1), .bool (r 2), .bool (r 3), .bool (r 4), .bool (r 5), .bool (r 6), .bool (r 7), .bool (r 8), .bool (r 9)] 70)) b g sa (i : Int) (j : Int) s ao cap t ∧ (w2.alloc (.cells #[.bool (r 0), .bool (r 1), .bool (r 2), .bool (r 3), .bool (r 4), .bool (r 5), .bool (r 6), .bool (r 7), .bool (r 8), .bool (r 9)] 70)).heap[w2.heap.size]? = some (.cells #[.bool (r 0), .bool (r 1), .bool (r 2), .bool (r 3), .bool (r 4), .bool (r 5), .bool (r 6), .bool (r 7), .bool (r 8), .bool (r 9)] 70 (0, 0)) ∧ b < w2.heap.size) := ⟨(HP1.out.next hb2).next (below_new _), heap_alloc_new _ _, by have := hb2.size; have := lt_block HP1.out.res; omega⟩
      clear HCh hb2 HP1 p0
      go_wp2_with fail
      refine (wback_calls HP2.out.1.wb sp m3 (by omega) (by omega)).mono ?_
      rintro e w4 ⟨rfl, hwb4, ho4⟩
      rw [← HU.out.1, ← HU.out.2] at hwb4
      have HP4 : Hid (Pw w0 w w4 b g sa (u : Int) (v : Int) s ao cap t ∧ w4.heap[w2.heap.size]? = some (.cells #[.bool (r 0), .bool (r 1), .bool (r 2), .bool (r 3), .bool (r 4), .bool (r 5), .bool (r 6), .bool (r 7), .bool (r 8), .bool (r 9)] 70 (0, 0))) := ⟨HP2.out.1.turn hbl hwb4 ho4, by rw [ho4 _ (by have := HP2.out.2.2; omega)]; exact HP2.out.2.1⟩
      clear hwb4 ho4 HP2
      obtain ⟨cc, hcc⟩ : ∃ cc, u8O (colB sp) = cc := ⟨_, rfl⟩
      have HCc : colB sp = (cc.toNat : Int) := by rw [← hcc]; exact (u8O_col sp).symm
      rw [hcc] at HT2
      rw [HCc]
      clear HCc hcc
      have HP5 : Hid (Pw w0 w (w4.alloc (.cells #[.int .u8 (cc.toNat : Int)] 5)) b g sa (u : Int) (v : Int) s ao cap t ∧ (w4.alloc (.cells #[.int .u8 (cc.toNat : Int)] 5)).heap[w2.heap.size]? = some (.cells #[.bool (r 0), .bool (r 1), .bool (r 2), .bool (r 3), .bool (r 4), .bool (r 5), .bool (r 6), .bool (r 7), .bool (r 8), .bool (r 9)] 70 (0, 0))) := ⟨HP4.out.1.next (below_new _), by rw [(below_new _).block _ (lt_block HP4.out.2)]; exact HP4.out.2⟩
      have hbig : w.heap.size + 1 ≤ (w4.alloc (.cells #[.int .u8 (cc.toNat : Int)] 5)).heap.size := by have := lt_block HP5.out.1.res; omega
      clear HP4
      go_wp2_with (at_builtin; refine wpList_append_own _ rfl _ _ 75 rfl (w.heap.size + 1) 5 i5 _ 1 1 Tryz.underlying75 hi hz0 hz1 hz2 rfl (by decide) (.slice ao t.length cap) t.length (byE t) rfl HP5.out.1.own ⟨w4.heap.size, 0, none⟩ 1 1 [u8E cc] rfl rfl (u8_new w4 cc) (u8_one cc) (by unfold maxLen; omega) (by omega) hbig ?_)
      intro v' w5 ho hgr _
      obtain ⟨ao5, c5, rfl⟩ := owned_shape ho
      have HO5 : w5.ownsRow (w.heap.size + 1) 5 1 (.slice ao5 (t ++ [cc]).length c5) (t ++ [cc]).length (byE (t ++ [cc])) := by
        rw [byE_snoc, List.length_append]
        exact ho
      have HP6 : Hid (Pw w0 w w5 b g sa (u : Int) (v : Int) s ao5 c5 (t ++ [cc]) ∧ w5.heap[w2.heap.size]? = some (.cells #[.bool (r 0), .bool (r 1), .bool (r 2), .bool (r 3), .bool (r 4), .bool (r 5), .bool (r 6), .bool (r 7), .bool (r 8), .bool (r 9)] 70 (0, 0))) := ⟨HP5.out.1.grown hbl hgr HO5, by rw [hgr.block _ (lt_block HP5.out.2) (own_ne HP5.out.1.own HP5.out.2)]; exact HP5.out.2⟩
      have HP7 : Hid (Pw w0 w (planed w5 b r) b g sa (u : Int) (v : Int) r ao5 c5 (t ++ [cc])) := HP6.out.1.turn hbl (HP6.out.1.wb.planes r) (fun k hk => planed_other w5 b r hk)
      clear ho hgr HO5 HP5
      have hlt : (t ++ [cc]).length = t.length + 1 := by simp
      have HLT : Hid ((t ++ [cc]).length = t.length + 1) := hlt
      clear hlt
      go_upto_region 5 with (fail)
      have e0 := cell_block HP6.out.2 0 _ rfl
      have q0 := HP6.out.1.wb.cell 4 (.bool (s 0)) rfl
      have f0 := HP6.out.1.wb.fz 4
      have e1 := cell_block HP6.out.2 1 _ rfl
      have q1 := HP6.out.1.wb.cell 5 (.bool (s 1)) rfl
      have f1 := HP6.out.1.wb.fz 5
      have e2 := cell_block HP6.out.2 2 _ rfl
      have q2 := HP6.out.1.wb.cell 6 (.bool (s 2)) rfl
      have f2 := HP6.out.1.wb.fz 6
      have e3 := cell_block HP6.out.2 3 _ rfl
      have q3 := HP6.out.1.wb.cell 7 (.bool (s 3)) rfl
      have f3 := HP6.out.1.wb.fz 7
      have e4 := cell_block HP6.out.2 4 _ rfl
      have q4 := HP6.out.1.wb.cell 8 (.bool (s 4)) rfl
      have f4 := HP6.out.1.wb.fz 8
      have e5 := cell_block HP6.out.2 5 _ rfl
      have q5 := HP6.out.1.wb.cell 9 (.bool (s 5)) rfl
      have f5 := HP6.out.1.wb.fz 9
      have e6 := cell_block HP6.out.2 6 _ rfl
      have q6 := HP6.out.1.wb.cell 10 (.bool (s 6)) rfl
      have f6 := HP6.out.1.wb.fz 10
      have e7 := cell_block HP6.out.2 7 _ rfl
      have q7 := HP6.out.1.wb.cell 11 (.bool (s 7)) rfl
      have f7 := HP6.out.1.wb.fz 11
      have e8 := cell_block HP6.out.2 8 _ rfl
      have q8 := HP6.out.1.wb.cell 12 (.bool (s 8)) rfl
      have f8 := HP6.out.1.wb.fz 12
      have e9 := cell_block HP6.out.2 9 _ rfl
      have q9 := HP6.out.1.wb.cell 13 (.bool (s 9)) rfl
      have f9 := HP6.out.1.wb.fz 13
      clear HP6
      unfold planed at HP7
      go_wp2
      go_roundg (u + v)
      case rel => exact ⟨u, v, k + 1, r, ao5, c5, t ++ [cc], rfl, by rw [HLT.out], by omega, by rw [HLT.out]; have := HTL.out; omega, by omega, by omega, HT2.out.symm, by rw [HLT.out, HTL.out], HW2.out, HP7.out⟩
      case measure => omega
end

end Go.Proofs.YtnkfibahkmmnpaaGreat
namespace Go.Proofs.YtnkfibahkmmnpaaGreat
open Go.RowKit Go.Deep Go.Maps

/-- The way back from the best end: the columns, last first, and where it begins. -/
def wayL (c : Cd) (x y : List Int) : List Int × Nat × Nat := goW c x y ((runM c x y).ends.i.toNat + (runM c x y).ends.j.toNat + 1) (runM c x y).ends.i.toNat (runM c x y).ends.j.toNat (setL (risB (runM c x y).ends))
def colS (l : List Int) : ByteArray := ⟨((l.map u8O).reverse).toArray⟩
/-- What Walk tells. -/
def wlkF (c : Cd) (x y : List Int) : Array Value := if (runM c x y).ends.found then #[.int .i64 (runM c x y).ends.score, .int .i64 ((wayL c x y).2.1 : Int), .int .i64 ((wayL c x y).2.2 : Int), .string (colS (wayL c x y).1)] else #[.int .i64 0, .int .i64 0, .int .i64 0, .string ⟨#[]⟩]
def wlkE (c : Cd) (x y : List Int) : Int := if (runM c x y).ends.found then 0 else 130
def WalkPost (c : Cd) (x y : List Int) (w : World) (r : Ending) (w' : World) : Prop := r = .returned (.tuple #[.agg (wlkF c x y), .int .i64 (wlkE c x y)]) ∧ Below w.heap.size w w'
set_option maxRecDepth 10000 in
set_option maxHeartbeats 2000000 in
theorem walk_calls {c : Cd} (hg : Gk c) {x y : List Int} {w : World} {g gs : Nat} {ta : Sl} {st : Int} (hT : Tb w g gs c.planes.toNat x.length y.length ta (runM c x y).slots (runM c x y).ends st)
    (ha : QdsAt w ta.a ta.n c.arrows) (hl : ta.n ≤ 100000) (hx : x.length ≤ 65536) (hy : y.length ≤ 65536) :
    Calls Tryz.prog 8 #[.pointer (some ⟨g, 0, none⟩)] w (WalkPost c x y w) := by
  have hres : Tryz.f8.results = #[.cell 2 39, .tmp 3] := by kernel_rfl
  have HT : Hid (Tb w g gs c.planes.toNat x.length y.length ta (runM c x y).slots (runM c x y).ends st ∧ QdsAt w ta.a ta.n c.arrows ∧ ta.n ≤ 100000 ∧ x.length ≤ 65536 ∧ y.length ≤ 65536 ∧ Gk c) := ⟨hT, ha, hl, hx, hy, hg⟩
  have HR : Hid ((w.alloc (.cells #[.int .i64 0, .int .i64 0, .int .i64 0, .string ⟨#[]⟩] 39)).heap[w.heap.size]? = some (.cells #[.int .i64 0, .int .i64 0, .int .i64 0, .string ⟨#[]⟩] 39 (0, 0)) ∧ Below w.heap.size w (w.alloc (.cells #[.int .i64 0, .int .i64 0, .int .i64 0, .string ⟨#[]⟩] 39))) := ⟨heap_alloc_new _ _, below_new _⟩
  clear hT ha hl hx hy hg
  go_enter Tryz.func8, Tryz.ntmps8
  go_wp2_with fail
  refine (best_calls (HT.out.1.next HR.out.2)).mono ?_
  rintro e w1 ⟨ao, cap, rfl, ho, hb1⟩
  have H1 : Hid (w1.heap[w.heap.size]? = some (.cells #[.int .i64 0, .int .i64 0, .int .i64 0, .string ⟨#[]⟩] 39 (0, 0)) ∧ Below w.heap.size w w1 ∧ IntsAt w1 ao (risB (runM c x y).ends).length (risB (runM c x y).ends)) :=
    ⟨by rw [hb1.block _ (lt_block HR.out.1)]; exact HR.out.1, HR.out.2.trans (hb1.mono HR.out.2.size), ints_owned ho⟩
  clear ho hb1 HR
  cases hf : (runM c x y).ends.found with
  | false =>
    have r0 := cell_block H1.out.1 0 _ rfl
    have r1 := cell_block H1.out.1 1 _ rfl
    have r2 := cell_block H1.out.1 2 _ rfl
    have r3 := cell_block H1.out.1 3 _ rfl
    have rf : ∀ k, w1.frozen? ⟨w.heap.size, k, none⟩ = false := fun k => frozen_of_row _ _ k _ _ H1.out.1
    have HX : Hid (∀ W : World, Below w.heap.size w W → WalkPost c x y w (.returned (.tuple #[.agg #[.int .i64 0, .int .i64 0, .int .i64 0, .string ⟨#[]⟩], .int .i64 130])) W) := fun W hW => ⟨by unfold wlkF wlkE; rw [hf]; rfl, hW⟩
    clear hf
    generalize (risB (runM c x y).ends).length = rl at *
    generalize (runM c x y).ends = E at *
    obtain ⟨e1, e2, e3, e4, e5⟩ := E
    go_wp2
    refine bodyPost_ret (v := .tuple #[.agg #[.int .i64 0, .int .i64 0, .int .i64 0, .string ⟨#[]⟩], .int .i64 130]) ?_ rfl (HX.out _ ?_)
    · simp only [results, hres]
      go_simp
    · exact (((H1.out.2.1.setCell (p := ⟨w.heap.size, 0, none⟩) (Nat.le_refl _) _).setCell (p := ⟨w.heap.size, 1, none⟩) (Nat.le_refl _) _).setCell (p := ⟨w.heap.size, 2, none⟩) (Nat.le_refl _) _).setCell (p := ⟨w.heap.size, 3, none⟩) (Nat.le_refl _) _
  | true =>
    obtain ⟨i, j, hi, hj, hix, hjy, hwk⟩ := wk_start HT.out.2.2.2.2.2 hf
    have HX : Hid (∀ W : World, Below w.heap.size w W → WalkPost c x y w (.returned (.tuple #[.agg #[.int .i64 (runM c x y).ends.score, .int .i64 ((wayL c x y).2.1 : Int), .int .i64 ((wayL c x y).2.2 : Int), .string (colS (wayL c x y).1)], .int .i64 0])) W) := fun W hW => ⟨by unfold wlkF wlkE; rw [hf]; rfl, hW⟩
    have HA : Hid (∀ W, Below w.heap.size w W → Calls Tryz.prog 20 #[.pointer (some ⟨g, 0, none⟩)] W (ArPost c.arrows W)) := fun W hW => arrows_calls (HT.out.1.next hW) c.arrows (HT.out.2.1.below hW) HT.out.2.2.1
    have HO : Hid (∀ W cap, Below w1.heap.size w1 W → Calls Tryz.prog 21 #[.slice ao (risB (runM c x y).ends).length cap] W fun e w' => e = .returned (.agg (setC (setL (risB (runM c x y).ends)))) ∧ Below W.heap.size W w') := fun W cap hW => setOf_calls ao _ cap _ W (H1.out.2.2.below hW) (ris_small _)
    have HWy : Hid (∀ (W : World) (b : Nat) (sa : Sl), Wb w W b g sa (i : Int) (j : Int) (setL (risB (runM c x y).ends)) → W.ownsRow w.heap.size 79 4 (.slice sa.a sa.n sa.c) sa.n (qdVals c.arrows) → Calls Tryz.prog 22 #[.pointer (some ⟨b, 0, none⟩)] W fun r w' => r = .returned (.agg #[.int .i64 ((wayL c x y).2.1 : Int), .int .i64 ((wayL c x y).2.2 : Int), .string (colS (wayL c x y).1)]) ∧ Below w.heap.size w w' ∧ (∀ k, k < W.heap.size → k ≠ b → w'.heap[k]? = W.heap[k]?) ∧ W.heap.size ≤ w'.heap.size) := fun W b sa hW hq => by
      refine (path_calls HT.out.2.2.2.2.2 HT.out.1 i j hW ⟨hix, HT.out.2.2.2.1⟩ ⟨hjy, HT.out.2.2.2.2.1⟩ hq hwk).mono ?_
      rintro r w' ⟨h1, h2, h3, h4⟩
      refine ⟨?_, h2, h3, h4⟩
      rw [h1]
      unfold wayL colS
      rw [hi, hj]
      rfl
    have hi' : (runM c x y).ends.i = (i : Int) := hi
    have hj' : (runM c x y).ends.j = (j : Int) := hj
    have HS : Hid (∀ s, setL (risB (runM c x y).ends) = s → setC (setL (risB (runM c x y).ends)) = setC s) := fun s h => by rw [h]
    clear hwk hi hj HT
    generalize setL (risB (runM c x y).ends) = S at *
    generalize (risB (runM c x y).ends).length = rl at *
    rw [hi', hj']
    clear hf hi' hj' HS
    generalize (runM c x y).ends.score = sc at *
    generalize (wayL c x y).2.1 = I at *
    generalize (wayL c x y).2.2 = J at *
    generalize colS (wayL c x y).1 = str at *
    go_wp2_with fail
    refine (HA.out _ H1.out.2.1).mono ?_
    rintro e w2 ⟨aa, ac, rfl, hq2, hb2⟩
    obtain ⟨an, han⟩ : ∃ an, c.arrows.length = an := ⟨_, rfl⟩
    rw [han] at hq2 ⊢
    have H2 : Hid (w2.ownsRow w.heap.size 79 4 (.slice aa an ac) an (qdVals c.arrows) ∧ w2.heap[w.heap.size]? = some (.cells #[.int .i64 0, .int .i64 0, .int .i64 0, .string ⟨#[]⟩] 39 (0, 0)) ∧ Below w.heap.size w w2) := ⟨owned_base hq2 H1.out.2.1.size, by rw [hb2.block _ (lt_block H1.out.1)]; exact H1.out.1, H1.out.2.1.trans (hb2.mono H1.out.2.1.size)⟩
    have HB2 : Hid (Below w1.heap.size w1 w2) := hb2
    clear hq2 hb2 HA
    go_wp2_with fail
    refine (HO.out _ _ HB2.out).mono ?_
    rintro e w3 ⟨rfl, hb3⟩
    have H3 : Hid (w3.ownsRow w.heap.size 79 4 (.slice aa an ac) an (qdVals c.arrows) ∧ w3.heap[w.heap.size]? = some (.cells #[.int .i64 0, .int .i64 0, .int .i64 0, .string ⟨#[]⟩] 39 (0, 0)) ∧ Below w.heap.size w w3) := ⟨owned_below H2.out.1 hb3, by rw [hb3.block _ (lt_block H2.out.2.1)]; exact H2.out.2.1, H2.out.2.2.trans (hb3.mono H2.out.2.2.size)⟩
    clear hb3 HB2 HO H2 H1
    have H4 : Hid (Wb w (w3.alloc (.cells (wkCells g ⟨aa, an, ac⟩ (i : Int) (j : Int) S) 73)) w3.heap.size g ⟨aa, an, ac⟩ (i : Int) (j : Int) S ∧ (w3.alloc (.cells (wkCells g ⟨aa, an, ac⟩ (i : Int) (j : Int) S) 73)).ownsRow w.heap.size 79 4 (.slice aa an ac) an (qdVals c.arrows) ∧ (w3.alloc (.cells (wkCells g ⟨aa, an, ac⟩ (i : Int) (j : Int) S) 73)).heap[w.heap.size]? = some (.cells #[.int .i64 0, .int .i64 0, .int .i64 0, .string ⟨#[]⟩] 39 (0, 0)) ∧ w.heap.size < w3.heap.size) :=
      ⟨⟨heap_alloc_new _ _, H3.out.2.2.alloc H3.out.2.2.size _, H3.out.2.2.size⟩, owned_below H3.out.1 (below_new _), by rw [(below_new _).block _ (lt_block H3.out.2.1)]; exact H3.out.2.1, lt_block H3.out.2.1⟩
    clear H3
    unfold wkCells at H4
    unfold setC
    go_wp2_with fail
    refine (HWy.out _ _ _ H4.out.1 H4.out.2.1).mono ?_
    rintro e w5 ⟨rfl, hb5, ho5, hz5⟩
    have H5 : Hid (w5.heap[w.heap.size]? = some (.cells #[.int .i64 0, .int .i64 0, .int .i64 0, .string ⟨#[]⟩] 39 (0, 0)) ∧ Below w.heap.size w w5) := ⟨by rw [ho5 _ (lt_block H4.out.2.2.1) (by have := H4.out.2.2.2; omega)]; exact H4.out.2.2.1, hb5⟩
    clear hb5 ho5 hz5 H4 HWy
    have r0 := cell_block H5.out.1 0 _ rfl
    have r1 := cell_block H5.out.1 1 _ rfl
    have r2 := cell_block H5.out.1 2 _ rfl
    have r3 := cell_block H5.out.1 3 _ rfl
    have rf : ∀ k, w5.frozen? ⟨w.heap.size, k, none⟩ = false := fun k => frozen_of_row _ _ k _ _ H5.out.1
    go_wp2
    refine bodyPost_ret (v := .tuple #[.agg #[.int .i64 sc, .int .i64 (I : Int), .int .i64 (J : Int), .string str], .int .i64 0]) ?_ rfl (HX.out _ ?_)
    · simp only [results, hres]
      go_simp
    · exact (((H5.out.2.setCell (p := ⟨w.heap.size, 0, none⟩) (Nat.le_refl _) _).setCell (p := ⟨w.heap.size, 1, none⟩) (Nat.le_refl _) _).setCell (p := ⟨w.heap.size, 2, none⟩) (Nat.le_refl _) _).setCell (p := ⟨w.heap.size, 3, none⟩) (Nat.le_refl _) _

end Go.Proofs.YtnkfibahkmmnpaaGreat
