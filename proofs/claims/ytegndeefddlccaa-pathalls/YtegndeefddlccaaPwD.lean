/-
  path.Best.
-/
import Derived.Test.YtegndeefddlccaaPwC
import Derived.Test.YtegndeefddlccaaPaB
import Derived.Shelf.Abstract
import Derived.Shelf.RegionOpen
import Derived.WalkKit
import Derived.OwnWalkIn
import Derived.TacticsInMore
import Derived.LoopNIn
import Derived.LoopIn
namespace Go.Proofs.Ytegndeefddlccaa
open Go.RowKit Go.Shelf
attribute [local go_sem] Oper.semAt_some

theorem intoF_ok (m : Md) (nx ny : Nat) : ∀ (n : Nat) (i j : Int) (b : List UInt8), (hasB m nx ny i j = true → stepsB m nx ny i j b = true) → ∀ p ∈ intoF m nx ny n i j b, allowsB m nx ny p = true ∧ p.cols.length ≤ b.length + n := by
  intro n
  induction n with
  | zero => intro i j b _ p hp; simp [intoF] at hp
  | succ n ih =>
    intro i j b hb p hp
    unfold intoF at hp
    split at hp
    · rename_i hh
      rcases List.mem_append.1 hp with hp | hp
      · split at hp
        · rename_i hbg
          simp at hp
          subst hp
          exact ⟨by simp [allowsB, hh, hbg, hb hh], by simp⟩
        · simp at hp
      · obtain ⟨c, _, hp⟩ := List.mem_flatMap.1 hp
        split at hp
        · rename_i hgo
          have := ih _ _ _ (fun _ => by
            simp only [stepsB]
            rw [Int.sub_add_cancel, Int.sub_add_cancel, hgo, hh, hb hh]
            rfl) p hp
          exact ⟨this.1, by have := this.2; simp at this; omega⟩
        · simp at hp
    · simp at hp
theorem pathsB_ok {m : Md} {nx ny : Nat} {p : Pt} (h : p ∈ pathsB m nx ny) : allowsB m nx ny p = true ∧ p.cols.length ≤ nx + ny + 1 := by
  obtain ⟨i, hi, h⟩ := List.mem_flatMap.1 h
  obtain ⟨j, hj, h⟩ := List.mem_flatMap.1 h
  simp at hi hj
  split at h
  · rename_i he
    have := intoF_ok m nx ny _ _ _ [] (fun _ => by simpa [stepsB] using he) p h
    exact ⟨this.1, by have := this.2; simp at this; omega⟩
  · simp at h
theorem set4 {W : World} {b : Nat} {a0 a1 a2 a3 : Value} {t : TypeId} (h : W.heap[b]? = some (.cells #[a0, a1, a2, a3] t (0, 0))) (v0 v1 v2 v3 : Value) :
    ((((W.setCell ⟨b, 0, none⟩ v0).setCell ⟨b, 1, none⟩ v1).setCell ⟨b, 2, none⟩ v2).setCell ⟨b, 3, none⟩ v3).heap[b]? = some (.cells #[v0, v1, v2, v3] t (0, 0)) := by
  have h1 := heap_setCell_same W b 0 _ t v0 h
  have h2 := heap_setCell_same _ b 1 _ t v1 h1
  have h3 := heap_setCell_same _ b 2 _ t v2 h2
  exact heap_setCell_same _ b 3 _ t v3 h3
theorem set4o {W : World} {b k : Nat} (hk : k ≠ b) (v0 v1 v2 v3 : Value) : ((((W.setCell ⟨b, 0, none⟩ v0).setCell ⟨b, 1, none⟩ v1).setCell ⟨b, 2, none⟩ v2).setCell ⟨b, 3, none⟩ v3).heap[k]? = W.heap[k]? := by
  rw [Below.heap_setCell _ _ _ _ hk, Below.heap_setCell _ _ _ _ hk, Below.heap_setCell _ _ _ _ hk, Below.heap_setCell _ _ _ _ hk]
theorem below4 {B : Nat} {w W : World} (h : Below B w W) {b : Nat} (hb : B ≤ b) (v0 v1 v2 v3 : Value) : Below B w ((((W.setCell ⟨b, 0, none⟩ v0).setCell ⟨b, 1, none⟩ v1).setCell ⟨b, 2, none⟩ v2).setCell ⟨b, 3, none⟩ v3) :=
  below_set (below_set (below_set (below_set h hb 0 v0) hb 1 v1) hb 2 v2) hb 3 v3
theorem fr4 {O : Nat → Prop} {w W : World} (h : Fr O w W) {b : Nat} (hb : O b ∨ w.heap.size ≤ b) (v0 v1 v2 v3 : Value) : Fr O w ((((W.setCell ⟨b, 0, none⟩ v0).setCell ⟨b, 1, none⟩ v1).setCell ⟨b, 2, none⟩ v2).setCell ⟨b, 3, none⟩ v3) :=
  (((h.setCell hb 0 v0).setCell hb 1 v1).setCell hb 2 v2).setCell hb 3 v3
theorem shE_ref {m : Md} {xs ys : List Int} (h : shE m xs ys = 0) : refE m xs ys = 0 := by
  unfold shE at h
  split at h
  · assumption
  · exact absurd h (by assumption)
theorem bs_back (l : List UInt8) : (bs l).data.toList = l := by simp [bs]
theorem bs_len (l : List UInt8) : (bs l).size = l.length := by rw [← ba_size, bs_back]
def bstep (m : Md) (xs ys : List Int) (o : Option (Int × Pt)) (x : Pt) : Option (Int × Pt) :=
  match o with
  | none => some (worthW m xs ys x, x)
  | some r => if r.1 < worthW m xs ys x then some (worthW m xs ys x, x) else some r
def bestL (m : Md) (xs ys : List Int) (l : List Pt) : Option (Int × Pt) := l.foldl (bstep m xs ys) none
theorem bestL_snoc (m : Md) (xs ys : List Int) (l : List Pt) (x : Pt) : bestL m xs ys (l ++ [x]) = bstep m xs ys (bestL m xs ys l) x := by simp [bestL]
def fnC (r : Int × Pt) : Array Value := #[.int .i64 r.1, .int .i64 r.2.i, .int .i64 r.2.j, .string (bs r.2.cols)]
def fn0 : Int × Pt := (0, ⟨0, 0, []⟩)
def bsE (m : Md) (xs ys : List Int) : Int := if shE m xs ys = 0 then (match bestL m xs ys (pathsB m xs.length ys.length) with | none => 130 | some _ => 0) else shE m xs ys
def bsV (m : Md) (xs ys : List Int) : Int × Pt := if shE m xs ys = 0 then (bestL m xs ys (pathsB m xs.length ys.length)).getD fn0 else fn0
theorem bs_err {m : Md} {xs ys : List Int} (h : shE m xs ys ≠ 0) : bsE m xs ys = shE m xs ys ∧ bsV m xs ys = fn0 := by unfold bsE bsV; rw [if_neg h, if_neg h]; exact ⟨rfl, rfl⟩
theorem bs_none {m : Md} {xs ys : List Int} (h : shE m xs ys = 0) (h2 : bestL m xs ys (pathsB m xs.length ys.length) = none) : bsE m xs ys = 130 ∧ bsV m xs ys = fn0 := by unfold bsE bsV; rw [if_pos h, if_pos h, h2]; exact ⟨rfl, rfl⟩
theorem bs_some {m : Md} {xs ys : List Int} {r : Int × Pt} (h : shE m xs ys = 0) (h2 : bestL m xs ys (pathsB m xs.length ys.length) = some r) : bsE m xs ys = 0 ∧ bsV m xs ys = r := by unfold bsE bsV; rw [if_pos h, if_pos h, h2]; exact ⟨rfl, rfl⟩
def BestPost (m : Md) (xs ys : List Int) (w : World) (e : Ending) (w' : World) : Prop :=
  e = .returned (.tuple #[.agg (fnC (bsV m xs ys)), .int .i64 (bsE m xs ys)]) ∧ Below w.heap.size w w'
/-- Between two rounds: the best so far, and whether there is one. -/
structure BsK (m : Md) (xs ys : List Int) (w : World) (fd : Array Value) (bd ba bo : Nat) (s : List Pt) (O : Nat → Prop) (W : World) : Prop where
  low : Below w.heap.size w W
  f : W.heap[bd]? = some (.cells fd 55 (0, 0))
  best : W.heap[ba]? = some (.cells (fnC ((bestL m xs ys s).getD fn0)) 43 (0, 0))
  found : W.heap[bo]? = some (.cells #[.bool (bestL m xs ys s).isSome] 4 (0, 0))
  hO : ∀ k, O k ↔ (k = ba ∨ k = bo)
  ge : w.heap.size ≤ bd ∧ bd < ba ∧ ba < bo
theorem BsK.lt {m : Md} {xs ys : List Int} {w : World} {fd : Array Value} {bd ba bo : Nat} {s : List Pt} {O : Nat → Prop} {W : World} (h : BsK m xs ys w fd bd ba bo s O W) : ∀ k, O k → k < W.heap.size := by
  intro k hk
  rcases (h.hO k).1 hk with rfl | rfl
  · exact (Array.getElem?_eq_some_iff.1 h.best).1
  · exact (Array.getElem?_eq_some_iff.1 h.found).1
theorem BsK.stab {m : Md} {xs ys : List Int} {w : World} {fd : Array Value} {bd ba bo n : Nat} (hn : bo < n) : Stab n (BsK m xs ys w fd bd ba bo) := by
  intro s O A C T h hf hT
  have hg := h.ge
  refine ⟨h.low.trans (hf.below (fun k hk => by have := (hT k hk).1; omega) (by have := h.low.size; omega)), hf.heap h.f (fun ht => by have := (hT _ ht).1; omega), hf.heap h.best (fun ht => (hT _ ht).2 ((h.hO _).2 (.inl rfl))), hf.heap h.found (fun ht => (hT _ ht).2 ((h.hO _).2 (.inr rfl))), h.hO, h.ge⟩
theorem rf_ok {α : Type} {K : List α → (Nat → Prop) → World → Prop} {s : List α} {O : Nat → Prop} {W W' : World} {a : Act} (h : RoundOk K s O W W') : rfPost K s O W .normal a W' := h
theorem BsK.put {m : Md} {xs ys : List Int} {w W2 w5 : World} {fd : Array Value} {bd ba bo : Nat} {s s' : List Pt} {O : Nat → Prop} {r : Int × Pt} (h : BsK m xs ys w fd bd ba bo s O w5) (hb : Below W2.heap.size W2 w5) (hs : bestL m xs ys s' = some r) :
    RoundOk (BsK m xs ys w fd bd ba bo) s' O W2 (((((w5.setCell ⟨ba, 0, none⟩ (.int .i64 r.1)).setCell ⟨ba, 1, none⟩ (.int .i64 r.2.i)).setCell ⟨ba, 2, none⟩ (.int .i64 r.2.j)).setCell ⟨ba, 3, none⟩ (.string (bs r.2.cols))).setCell ⟨bo, 0, none⟩ (.bool true)) := by
  have hg := h.ge
  refine ⟨O, ⟨below_set (below4 h.low (by omega) _ _ _ _) (by omega) 0 _, ?_, ?_, ?_, h.hO, h.ge⟩, (fr4 (Fr.of_below (O := O) hb) (.inl ((h.hO _).2 (.inl rfl))) _ _ _ _).setCell (.inl ((h.hO _).2 (.inr rfl))) 0 _, fun k hk => .inl hk⟩
  · rw [Below.heap_setCell _ _ _ _ (by show bd ≠ bo; omega), set4o (by omega)]; exact h.f
  · rw [Below.heap_setCell _ _ _ _ (by show ba ≠ bo; omega), hs]
    exact set4 h.best _ _ _ _
  · have h1 : ((((w5.setCell ⟨ba, 0, none⟩ (.int .i64 r.1)).setCell ⟨ba, 1, none⟩ (.int .i64 r.2.i)).setCell ⟨ba, 2, none⟩ (.int .i64 r.2.j)).setCell ⟨ba, 3, none⟩ (.string (bs r.2.cols))).heap[bo]? = some (.cells #[.bool (bestL m xs ys s).isSome] 4 (0, 0)) := by
      rw [set4o (by omega)]; exact h.found
    rw [hs]
    exact heap_setCell_same _ bo 0 _ 4 (.bool true) h1
theorem BsK.same {m : Md} {xs ys : List Int} {w W2 w5 : World} {fd : Array Value} {bd ba bo : Nat} {s s' : List Pt} {O : Nat → Prop} (h : BsK m xs ys w fd bd ba bo s O w5) (hb : Below W2.heap.size W2 w5) (hs : bestL m xs ys s' = bestL m xs ys s) : RoundOk (BsK m xs ys w fd bd ba bo) s' O W2 w5 :=
  ⟨O, ⟨h.low, h.f, by rw [hs]; exact h.best, by rw [hs]; exact h.found, h.hO, h.ge⟩, Fr.of_below hb, fun k hk => .inl hk⟩

set_option maxRecDepth 100000 in
set_option maxHeartbeats 4000000 in
theorem best_in (m : Md) (sa : Option Addr) (sn sc : Nat) (ga : Option Addr) (gn gc : Nat) (xa : Option Addr) (xn xc : Nat) (ya : Option Addr) (yn yc : Nat) (xs ys : List Int) (w : World) (h : MdAt w m sa sn ga gn) (hx : IntsAt w xa xn xs) (hy : IntsAt w ya yn ys) :
    CallsIn Fence.wide 0 Try.prog 19 #[.agg (mdCells m sa sn sc ga gn gc), .slice xa xn xc, .slice ya yn yc] w fun e w' => BestPost m xs ys w e w' := by
  have hres : Try.f19.results = #[.cell 6 43, .tmp 7] := by kernel_rfl
  have hxl := hx.length
  have hyl := hy.length
  have hgl := h.gaps.length
  obtain ⟨w0, hw0⟩ : ∃ w0, (w.alloc (.cells (mdCells m sa sn sc ga gn gc) 31)).alloc (.cells #[.int .i64 0, .int .i64 0, .int .i64 0, .string { data := #[] }] 43) = w0 := ⟨_, rfl⟩
  have hbl : Below w.heap.size w w0 := by rw [← hw0]; exact below_al (bl1 _ _) _
  have hbm : w0.heap[w.heap.size]? = some (.cells (mdCells m sa sn sc ga gn gc) 31 (0, 0)) := by rw [← hw0]; exact hp_old (hp_at rfl)
  have hrs : w0.heap[w.heap.size + 1]? = some (.cells #[.int .i64 0, .int .i64 0, .int .i64 0, .string { data := #[] }] 43 (0, 0)) := by rw [← hw0]; exact hp_at (by simp)
  have HS := shortField_calls m sa sn sc ga gn gc xa xn xc ya yn yc xs ys _ (h.below hbl) (hx.below hbl) (hy.below hbl)
  generalize hE : shE m xs ys = E
  have HS2 := HS.mono (R' := fun e w' => e = .returned (.tuple #[.agg (if E = 0 then fdCells m sa sn sc ga gn gc xa xn xc ya yn yc else fdZero), .int .i64 E]) ∧ Below w0.heap.size w0 w') (fun e w' hh => by unfold ShPost at hh; rw [hE] at hh; exact hh)
  clear HS
  rw [show mdCells m sa sn sc ga gn gc = #[.int .i64 m.letters, .slice sa sn sc, .slice ga gn gc, .int .i64 m.mode, .bool m.banded, .int .i64 m.lo, .int .i64 m.hi, .int .i64 m.front, .int .i64 m.back, .int .i64 m.least] from rfl] at hw0 hbm HS2 ⊢
  have b0 := cell_block hbm 0 (.int .i64 m.letters) rfl
  have b1 := cell_block hbm 1 (.slice sa sn sc) rfl
  have b2 := cell_block hbm 2 (.slice ga gn gc) rfl
  have b3 := cell_block hbm 3 (.int .i64 m.mode) rfl
  have b4 := cell_block hbm 4 (.bool m.banded) rfl
  have b5 := cell_block hbm 5 (.int .i64 m.lo) rfl
  have b6 := cell_block hbm 6 (.int .i64 m.hi) rfl
  have b7 := cell_block hbm 7 (.int .i64 m.front) rfl
  have b8 := cell_block hbm 8 (.int .i64 m.back) rfl
  have b9 := cell_block hbm 9 (.int .i64 m.least) rfl
  refine callsIn_of_wp_marks Try.func19 rfl trivial ?_ rfl
  simp only [Try.ntmps19, List.size_toArray, List.length_cons, List.length_nil, Nat.reduceAdd, Nat.reduceSub, Array.replicate_succ, Array.replicate_zero, List.push_toArray, List.append_toArray, List.nil_append, List.cons_append]
  subst hw0
  by_cases hE0 : E = 0
  · rw [if_pos hE0, show fdCells m sa sn sc ga gn gc xa xn xc ya yn yc = #[.int .i64 m.letters, .slice sa sn sc, .slice ga gn gc, .int .i64 m.mode, .bool m.banded, .int .i64 m.lo, .int .i64 m.hi, .int .i64 m.front, .int .i64 m.back, .int .i64 m.least, .slice xa xn xc, .slice ya yn yc] from rfl] at HS2
    subst hE0
    gi_wp2_with (first
      | (refine ⟨trivial, rfl, ?_⟩; gi_at_call 32; refine (callsIn_wide.2 HS2).mono ?_; rintro e w1 ⟨rfl, hb1⟩; clear HS2; have hbl1 := hbl.trans (hb1.mono hbl.size); have hrs1 := (Fr.of_below (O := fun _ => False) hb1).heap hrs (fun h => h); have hnb : (((w1.alloc (.cells #[.int .i64 m.letters, .slice sa sn sc, .slice ga gn gc, .int .i64 m.mode, .bool m.banded, .int .i64 m.lo, .int .i64 m.hi, .int .i64 m.front, .int .i64 m.back, .int .i64 m.least, .slice xa xn xc, .slice ya yn yc] 55)).alloc (.cells #[.int .i64 0, .int .i64 0, .int .i64 0, .string { data := #[] }] 43)).alloc (.cells #[.bool false] 4)).heap[w1.heap.size]? = some (.cells #[.int .i64 m.letters, .slice sa sn sc, .slice ga gn gc, .int .i64 m.mode, .bool m.banded, .int .i64 m.lo, .int .i64 m.hi, .int .i64 m.front, .int .i64 m.back, .int .i64 m.least, .slice xa xn xc, .slice ya yn yc] 55 (0, 0)) := hp_old (hp_old (hp_at rfl)); have n0 := cell_block hnb 0 (.int .i64 m.letters) rfl; have n1 := cell_block hnb 1 (.slice sa sn sc) rfl; have n2 := cell_block hnb 2 (.slice ga gn gc) rfl; have n3 := cell_block hnb 3 (.int .i64 m.mode) rfl; have n4 := cell_block hnb 4 (.bool m.banded) rfl; have n5 := cell_block hnb 5 (.int .i64 m.lo) rfl; have n6 := cell_block hnb 6 (.int .i64 m.hi) rfl; have n7 := cell_block hnb 7 (.int .i64 m.front) rfl; have n8 := cell_block hnb 8 (.int .i64 m.back) rfl; have n9 := cell_block hnb 9 (.int .i64 m.least) rfl; have n10 := cell_block hnb 10 (.slice xa xn xc) rfl; have n11 := cell_block hnb 11 (.slice ya yn yc) rfl)
      | (refine ⟨trivial, rfl, ?_⟩; gi_at_call 33; refine (callsIn_wide.2 (paths_calls m sa sn sc ga gn gc xa xn xc ya yn yc _)).mono ?_; rintro e w3 ⟨bf', rfl, hb3, hge, hbf'⟩))
    have hlt1 := (Array.getElem?_eq_some_iff.1 hrs1).1
    have hlt3 : w1.heap.size + 2 < w3.heap.size := by have := hb3.size; simp at this; omega
    have hl3 : Fr (fun _ => False) (((w1.alloc (.cells #[.int .i64 m.letters, .slice sa sn sc, .slice ga gn gc, .int .i64 m.mode, .bool m.banded, .int .i64 m.lo, .int .i64 m.hi, .int .i64 m.front, .int .i64 m.back, .int .i64 m.least, .slice xa xn xc, .slice ya yn yc] 55)).alloc (.cells #[.int .i64 0, .int .i64 0, .int .i64 0, .string { data := #[] }] 43)).alloc (.cells #[.bool false] 4)) w3 := Fr.of_below hb3
    have hbl3 : Below w.heap.size w w3 := (below_al (below_al (below_al hbl1 _) _) _).trans (hb3.mono (below_al (below_al (below_al hbl1 _) _) _).size)
    have hwle : w.heap.size ≤ w1.heap.size := hbl1.size
    have hK0 : BsK m xs ys w #[.int .i64 m.letters, .slice sa sn sc, .slice ga gn gc, .int .i64 m.mode, .bool m.banded, .int .i64 m.lo, .int .i64 m.hi, .int .i64 m.front, .int .i64 m.back, .int .i64 m.least, .slice xa xn xc, .slice ya yn yc] w1.heap.size (w1.heap.size + 1) (w1.heap.size + 2) [] (fun k => k = w1.heap.size + 1 ∨ k = w1.heap.size + 2) w3 :=
      ⟨hbl3, hl3.heap hnb (fun h => h), hl3.heap (hp_old (hp_at (by simp))) (fun h => h), hl3.heap (hp_at (by simp)) (fun h => h), fun k => Iff.rfl, by omega⟩
    have hres3 : w3.heap[w.heap.size + 1]? = some (.cells #[.int .i64 0, .int .i64 0, .int .i64 0, .string { data := #[] }] 43 (0, 0)) := hl3.heap (hp_old (hp_old (hp_old hrs1))) (fun h => h)
    have hok := fdOk_of (shE_ref hE) h hx hy
    have hsl := shE_len hE
    clear n0 n1 n2 n3 n4 n5 n6 n7 n8 n9 n10 n11 b0 b1 b2 b3 b4 b5 b6 b7 b8 b9
    refine rf_law (gf := 56) (encs := encP) (xs := pathsB m xn yn) (C := fun k => k = bf') rfl (enters_of Try.func56 (by kernel_rfl) rfl) (fun _ => rfl)
      (fun W' hb' => paths1_gives m sa sn sc ga gn gc xa xn xc ya yn yc (by omega) (by omega) hgl bf' W' ((Fr.of_below (O := fun _ => False) hb').heap hbf' (fun h => h)))
      (BsK m xs ys w #[.int .i64 m.letters, .slice sa sn sc, .slice ga gn gc, .int .i64 m.mode, .bool m.banded, .int .i64 m.lo, .int .i64 m.hi, .int .i64 m.front, .int .i64 m.back, .int .i64 m.least, .slice xa xn xc, .slice ya yn yc] w1.heap.size (w1.heap.size + 1) (w1.heap.size + 2)) (fun k => k = w1.heap.size + 1 ∨ k = w1.heap.size + 2) (fun s O A h => h.lt) (fun k hk => ⟨by rw [hk]; exact (Array.getElem?_eq_some_iff.1 hbf').1, fun ho => by simp at hge; omega⟩) (BsK.stab hlt3)
      hK0 pBox ?_ ?_
    · intro l' pre x post Oq Wq hxp hKq hnl hle
      simp only [encP, ptV]
      gi_wp2
      refine ⟨rfl, ?_⟩
      rintro W2 hK2 hbx hnb2
      have hx0 := cell_block hbx 0 (.int .i64 x.i) rfl
      have hx1 := cell_block hbx 1 (.int .i64 x.j) rfl
      have hx2 := cell_block hbx 2 (.string (bs x.cols)) rfl
      have n0 := cell_block hK2.f 0 (.int .i64 m.letters) rfl; have n1 := cell_block hK2.f 1 (.slice sa sn sc) rfl; have n2 := cell_block hK2.f 2 (.slice ga gn gc) rfl; have n3 := cell_block hK2.f 3 (.int .i64 m.mode) rfl; have n4 := cell_block hK2.f 4 (.bool m.banded) rfl; have n5 := cell_block hK2.f 5 (.int .i64 m.lo) rfl; have n6 := cell_block hK2.f 6 (.int .i64 m.hi) rfl; have n7 := cell_block hK2.f 7 (.int .i64 m.front) rfl; have n8 := cell_block hK2.f 8 (.int .i64 m.back) rfl; have n9 := cell_block hK2.f 9 (.int .i64 m.least) rfl; have n10 := cell_block hK2.f 10 (.slice xa xn xc) rfl; have n11 := cell_block hK2.f 11 (.slice ya yn yc) rfl
      have hmem : x ∈ pathsB m xn yn := by rw [hxp]; simp
      have hpo := pathsB_ok hmem
      have CW := worth_calls m sa sn sc ga gn gc xa xn xc ya yn yc xs ys x.i x.j (bs x.cols) W2 (hok.below hK2.low) (by rw [bs_len]; unfold maxLen; omega) (by rw [bs_back]; exact hpo.1)
      rw [bs_back, show fdCells m sa sn sc ga gn gc xa xn xc ya yn yc = #[.int .i64 m.letters, .slice sa sn sc, .slice ga gn gc, .int .i64 m.mode, .bool m.banded, .int .i64 m.lo, .int .i64 m.hi, .int .i64 m.front, .int .i64 m.back, .int .i64 m.least, .slice xa xn xc, .slice ya yn yc] from rfl] at CW
      obtain ⟨sv, hsv⟩ : ∃ sv, worthW m xs ys x = sv := ⟨_, rfl⟩
      rw [show (⟨x.i, x.j, x.cols⟩ : Pt) = x from rfl, hsv] at CW
      have hst := BsK.stab (m := m) (xs := xs) (ys := ys) (w := w) (fd := #[.int .i64 m.letters, .slice sa sn sc, .slice ga gn gc, .int .i64 m.mode, .bool m.banded, .int .i64 m.lo, .int .i64 m.hi, .int .i64 m.front, .int .i64 m.back, .int .i64 m.least, .slice xa xn xc, .slice ya yn yc]) (bd := w1.heap.size) (ba := w1.heap.size + 1) hlt3
      gi_wp2_with (refine ⟨trivial, rfl, ?_⟩; gi_at_call 30; refine Hid.out ?_)
      have hh : ∀ p : Prop, p → Hid p := fun p h => h
      refine hh _ ?_
      refine (CallsIn.inRound l' (callsIn_wide.2 CW)).mono ?_
      rintro e w5 ⟨rfl, hb5⟩
      have hK5 := hst _ _ _ _ (fun _ => False) hK2 (Fr.of_below hb5) (fun _ h => h.elim)
      have hg0 := cell_block hK5.found 0 (.bool (bestL m xs ys pre).isSome) rfl
      have hg1 := cell_block hK5.best 0 (.int .i64 ((bestL m xs ys pre).getD fn0).1) rfl
      have hx0 := cell_block ((Fr.of_below (O := fun _ => False) hb5).heap hbx (fun h => h)) 0 (.int .i64 x.i) rfl
      have hx1 := cell_block ((Fr.of_below (O := fun _ => False) hb5).heap hbx (fun h => h)) 1 (.int .i64 x.j) rfl
      have hx2 := cell_block ((Fr.of_below (O := fun _ => False) hb5).heap hbx (fun h => h)) 2 (.string (bs x.cols)) rfl
      have q1 := cell_block hK5.best 1 (.int .i64 ((bestL m xs ys pre).getD fn0).2.i) rfl
      have q2 := cell_block hK5.best 2 (.int .i64 ((bestL m xs ys pre).getD fn0).2.j) rfl
      have q3 := cell_block hK5.best 3 (.string (bs ((bestL m xs ys pre).getD fn0).2.cols)) rfl
      have qf : ∀ i, w5.frozen? ⟨w1.heap.size + 1, i, none⟩ = false := fun i => cellf hK5.best i
      have qo := cellf hK5.found 0
      have hbs := bestL_snoc m xs ys pre x
      cases hbp : bestL m xs ys pre with
      | none =>
        rw [hbp] at hbs hg0 hg1 q1 q2 q3
        simp only [bstep, hsv] at hbs
        gi_wp2
        refine rf_ok ?_
        exact BsK.put (r := (sv, x)) hK5 hb5 hbs
      | some r =>
        obtain ⟨rv, rp⟩ := r
        rw [hbp] at hbs hg0 hg1 q1 q2 q3
        simp only [bstep, hsv] at hbs
        simp only [Option.getD_some, Option.isSome_some] at hg0 hg1 q1 q2 q3
        have HP : Hid (bestL m xs ys pre = some (rv, rp)) := hbp
        clear hbp
        by_cases hgt : rv < sv
        · rw [if_pos hgt] at hbs
          have HS5 : Hid (bestL m xs ys (pre ++ [x]) = some (sv, x)) := hbs
          have hgb : decide (rv < sv) = true := decide_eq_true hgt
          clear hbs CW hok hpo hmem
          gi_wp2
          refine rf_ok ?_
          exact BsK.put (r := (sv, x)) hK5 hb5 HS5.out
        · rw [if_neg hgt] at hbs
          have HS5 : Hid (bestL m xs ys (pre ++ [x]) = bestL m xs ys pre) := (hbs.trans HP.out.symm : _ = _)
          have hgb : decide (rv < sv) = false := decide_eq_false hgt
          clear hbs CW hok hpo hmem
          gi_wp2
          refine rf_ok ?_
          exact hK5.same hb5 HS5.out
    · rintro D O' W' hD hK' hd hnD hf' ho'
      have hle4 : w.heap.size + 1 < w1.heap.size := hlt1
      have hg := hK'.ge
      have hresD : W'.heap[w.heap.size + 1]? = some (.cells #[.int .i64 0, .int .i64 0, .int .i64 0, .string { data := #[] }] 43 (0, 0)) := hf'.heap hres3 (fun h => by omega)
      have r0 := cell_block hresD 0 (.int .i64 0) rfl; have r1 := cell_block hresD 1 (.int .i64 0) rfl; have r2 := cell_block hresD 2 (.int .i64 0) rfl; have r3 := cell_block hresD 3 (.string { data := #[] }) rfl; have rf : ∀ i, _ := fun i => cellf hresD i
      have hg0 := cell_block hK'.found 0 (.bool (bestL m xs ys (pathsB m xn yn)).isSome) rfl
      cases hbp : bestL m xs ys (pathsB m xn yn) with
      | none =>
        rw [hbp] at hg0
        simp only [Option.isSome_none] at hg0
        have hbE := bs_none (m := m) (xs := xs) (ys := ys) hE (by rw [hxl, hyl]; exact hbp)
        gi_wp2
        have hfin := set4 hresD (.int .i64 0) (.int .i64 0) (.int .i64 0) (.string { data := #[] })
        have hlowD : Below w.heap.size w W' := hbl3.trans (hf'.below (fun k hk => by omega) hbl3.size)
        refine leaves_marks [D] _ (by simp) (fun E2 hE2 => by simp at hE2; rw [hE2, set4o (by omega)]; exact hd) (fun W3 hf3 => ?_)
        have hfin3 := hf3.heap hfin (fun h => by simp at h; omega)
        have z0 := cell_block hfin3 0 (.int .i64 0) rfl
        have z1 := cell_block hfin3 1 (.int .i64 0) rfl
        have z2 := cell_block hfin3 2 (.int .i64 0) rfl
        have z3 := cell_block hfin3 3 (.string { data := #[] }) rfl
        refine ⟨.tuple #[.agg #[.int .i64 0, .int .i64 0, .int .i64 0, .string { data := #[] }], .int .i64 130], ?_, ?_⟩
        · simp only [results, hres]
          go_simp
        · show BestPost _ _ _ _ _ _
          unfold BestPost
          rw [hbE.1, hbE.2]
          have hl4 := below4 hlowD (b := w.heap.size + 1) (by omega) (.int .i64 0) (.int .i64 0) (.int .i64 0) (.string { data := #[] })
          exact ⟨rfl, hl4.trans (hf3.below (fun k hk => by simp at hk; omega) hl4.size)⟩
      | some r =>
        rw [hbp] at hg0
        simp only [Option.isSome_some] at hg0
        have hbE := bs_some (m := m) (xs := xs) (ys := ys) hE (by rw [hxl, hyl]; exact hbp)
        have hbest := hK'.best
        rw [hbp] at hbest
        simp only [Option.getD_some] at hbest
        have g0 := cell_block hbest 0 (.int .i64 r.1) rfl
        have g1 := cell_block hbest 1 (.int .i64 r.2.i) rfl
        have g2 := cell_block hbest 2 (.int .i64 r.2.j) rfl
        have g3 := cell_block hbest 3 (.string (bs r.2.cols)) rfl
        gi_wp2
        have hfin := set4 hresD (.int .i64 r.1) (.int .i64 r.2.i) (.int .i64 r.2.j) (.string (bs r.2.cols))
        have hlowD : Below w.heap.size w W' := hbl3.trans (hf'.below (fun k hk => by omega) hbl3.size)
        refine leaves_marks [D] _ (by simp) (fun E2 hE2 => by simp at hE2; rw [hE2, set4o (by omega)]; exact hd) (fun W3 hf3 => ?_)
        have hfin3 := hf3.heap hfin (fun h => by simp at h; omega)
        have z0 := cell_block hfin3 0 (.int .i64 r.1) rfl
        have z1 := cell_block hfin3 1 (.int .i64 r.2.i) rfl
        have z2 := cell_block hfin3 2 (.int .i64 r.2.j) rfl
        have z3 := cell_block hfin3 3 (.string (bs r.2.cols)) rfl
        refine ⟨.tuple #[.agg #[.int .i64 r.1, .int .i64 r.2.i, .int .i64 r.2.j, .string (bs r.2.cols)], .int .i64 0], ?_, ?_⟩
        · simp only [results, hres]
          go_simp
        · show BestPost _ _ _ _ _ _
          unfold BestPost
          rw [hbE.1, hbE.2]
          have hl4 := below4 hlowD (b := w.heap.size + 1) (by omega) (.int .i64 r.1) (.int .i64 r.2.i) (.int .i64 r.2.j) (.string (bs r.2.cols))
          exact ⟨rfl, hl4.trans (hf3.below (fun k hk => by simp at hk; omega) hl4.size)⟩
  · rw [if_neg hE0, show fdZero = #[.int .i64 0, .slice none 0 0, .slice none 0 0, .int .i64 0, .bool false, .int .i64 0, .int .i64 0, .int .i64 0, .int .i64 0, .int .i64 0, .slice none 0 0, .slice none 0 0] from rfl] at HS2
    have hE2 : (E == 0) = false := by simpa using hE0
    gi_wp2_with (refine ⟨trivial, rfl, ?_⟩; gi_at_call 32; refine (callsIn_wide.2 HS2).mono ?_; rintro e w1 ⟨rfl, hb1⟩; clear HS2; have hbl1 := hbl.trans (hb1.mono hbl.size); have hrs1 := (Fr.of_below (O := fun _ => False) hb1).heap hrs (fun h => h); have hlt1 := (Array.getElem?_eq_some_iff.1 hrs1).1; have r0 := cell_block hrs1 0 (.int .i64 0) rfl; have r1 := cell_block hrs1 1 (.int .i64 0) rfl; have r2 := cell_block hrs1 2 (.int .i64 0) rfl; have r3 := cell_block hrs1 3 (.string { data := #[] }) rfl; have rf : ∀ i, _ := fun i => cellf hrs1 i)
    have hbE := bs_err (m := m) (xs := xs) (ys := ys) (by rw [hE]; exact hE0)
    refine ⟨.tuple #[.agg #[.int .i64 0, .int .i64 0, .int .i64 0, .string { data := #[] }], .int .i64 E], ?_, ?_⟩
    · simp only [results, hres]
      go_simp
    · show BestPost _ _ _ _ _ _
      unfold BestPost
      rw [hbE.1, hbE.2, hE]
      exact ⟨rfl, below_al (below4 hbl1 (by omega) _ _ _ _) _⟩

theorem best_calls (m : Md) (sa : Option Addr) (sn sc : Nat) (ga : Option Addr) (gn gc : Nat) (xa : Option Addr) (xn xc : Nat) (ya : Option Addr) (yn yc : Nat) (xs ys : List Int) (w : World) (h : MdAt w m sa sn ga gn) (hx : IntsAt w xa xn xs) (hy : IntsAt w ya yn ys) :
    Calls Try.prog 19 #[.agg (mdCells m sa sn sc ga gn gc), .slice xa xn xc, .slice ya yn yc] w fun e w' => BestPost m xs ys w e w' := callsIn_wide.1 (best_in m sa sn sc ga gn gc xa xn xc ya yn yc xs ys w h hx hy)
end Go.Proofs.Ytegndeefddlccaa
