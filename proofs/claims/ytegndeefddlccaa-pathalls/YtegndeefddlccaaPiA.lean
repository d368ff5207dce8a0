/-
  The function value that hands on all paths into a cell.
-/
import Derived.Test.YtegndeefddlccaaRfL
import Derived.Test.YtegndeefddlccaaPhA
import Derived.Shelf.Abstract
import Derived.Shelf.RegionOpen
import Derived.WalkKit
import Derived.OwnWalkIn
import Derived.TacticsInMore
import Derived.LoopNIn
import Derived.LoopIn
namespace Go.Proofs.Ytegndeefddlccaa
open Go.RowKit Go.Shelf
attribute [local go_sem] Oper.semAt_some

def bs (l : List UInt8) : ByteArray := ⟨l.toArray⟩
def ptV (p : Pt) : Value := .agg #[.int .i64 p.i, .int .i64 p.j, .string (bs p.cols)]
def encP (p : Pt) : Array Value := #[ptV p]

/-- The marks of loops over functions, gone through on the way out. -/
theorem leaves_marks {F : Fence} {n : Nat} {P : Program} {fn : Func} {tmps : Array Value} {R : Ending → World → Prop} : ∀ (ds : List Nat) (W : World), ds.Nodup → (∀ D ∈ ds, W.heap[D]? = some (.deferred (some []))) →
    (∀ W', Fr (fun k => k ∈ ds) W W' → LeavesIn F n P fn tmps R [] .returning W') → LeavesInM F n P fn tmps R (ds.map fun D => { target := .collected D, args := #[] }) .returning W := by
  intro ds
  induction ds with
  | nil => intro W _ _ h; exact h W (Fr.refl _ _)
  | cons D ds ih =>
    intro W hnd hd h
    obtain ⟨hD, hnd⟩ := List.nodup_cons.1 hnd
    refine ⟨by simp, .inl ⟨D, _, rfl, run_takeDeferred (hd D (by simp)), ih _ hnd (fun E hE => ?_) (fun W' hf => ?_)⟩⟩
    · rw [World.putObj_heap_other (fun e => hD (by rw [← e]; exact hE))]; exact hd E (by simp [hE])
    · exact h W' (((Fr.put1 W D _).wide (fun k _ e => by simp [e])).trans (hf.wide (O' := fun k => k ∈ D :: ds) (fun k _ e => by simp [e])) (fun k e => .inl e))

/-- The cells of a field that lies in a block. -/
def FdC (m : Md) (sa : Option Addr) (sn sc : Nat) (ga : Option Addr) (gn gc : Nat) (xa : Option Addr) (xn xc : Nat) (ya : Option Addr) (yn yc : Nat) (bf : Nat) (w : World) : Prop :=
  w.cell? ⟨bf, 0, none⟩ = some (.int .i64 m.letters) ∧ w.cell? ⟨bf, 1, none⟩ = some (.slice sa sn sc) ∧ w.cell? ⟨bf, 2, none⟩ = some (.slice ga gn gc) ∧ w.cell? ⟨bf, 3, none⟩ = some (.int .i64 m.mode) ∧ w.cell? ⟨bf, 4, none⟩ = some (.bool m.banded) ∧ w.cell? ⟨bf, 5, none⟩ = some (.int .i64 m.lo) ∧ w.cell? ⟨bf, 6, none⟩ = some (.int .i64 m.hi) ∧ w.cell? ⟨bf, 7, none⟩ = some (.int .i64 m.front) ∧ w.cell? ⟨bf, 8, none⟩ = some (.int .i64 m.back) ∧ w.cell? ⟨bf, 9, none⟩ = some (.int .i64 m.least) ∧ w.cell? ⟨bf, 10, none⟩ = some (.slice xa xn xc) ∧ w.cell? ⟨bf, 11, none⟩ = some (.slice ya yn yc)
theorem fdC_of {m : Md} {sa : Option Addr} {sn sc : Nat} {ga : Option Addr} {gn gc : Nat} {xa : Option Addr} {xn xc : Nat} {ya : Option Addr} {yn yc : Nat} {bf : Nat} {w : World} (h : w.heap[bf]? = some (.cells (fdCells m sa sn sc ga gn gc xa xn xc ya yn yc) 55 (0, 0))) : FdC m sa sn sc ga gn gc xa xn xc ya yn yc bf w :=
  ⟨cell_block h 0 _ rfl, cell_block h 1 _ rfl, cell_block h 2 _ rfl, cell_block h 3 _ rfl, cell_block h 4 _ rfl, cell_block h 5 _ rfl, cell_block h 6 _ rfl, cell_block h 7 _ rfl, cell_block h 8 _ rfl, cell_block h 9 _ rfl, cell_block h 10 _ rfl, cell_block h 11 _ rfl⟩
theorem own_keep {w w' : World} {T : Nat → Prop} {k : Nat} {o : Obj} (h : w.heap[k]? = some o) (hf : Fr T w w') (hT : ¬ T k) : w'.heap[k]? = some o := hf.heap h hT
/-- What a call of it has before it: its four boxes, and its yield's. -/
structure InA (fd : Array Value) (i j : Int) (b : List UInt8) (l bf bi bj bb by_ : Nat) (w : World) : Prop where
  f : w.heap[bf]? = some (.cells fd 55 (0, 0))
  i : w.heap[bi]? = some (.cells #[.int .i64 i] 3 (0, 0))
  j : w.heap[bj]? = some (.cells #[.int .i64 j] 3 (0, 0))
  b : w.heap[bb]? = some (.cells #[.string (bs b)] 9 (0, 0))
  y : w.heap[by_]? = some (.cells #[.func (.yield l) #[] #[]] 58 (0, 0))
theorem InA.keep {fd : Array Value} {i j : Int} {b : List UInt8} {l bf bi bj bb by_ : Nat} {w w' : World} {T : Nat → Prop} (h : InA fd i j b l bf bi bj bb by_ w) (hf : Fr T w w') (hT : ¬ T bf ∧ ¬ T bi ∧ ¬ T bj ∧ ¬ T bb ∧ ¬ T by_) : InA fd i j b l bf bi bj bb by_ w' :=
  ⟨hf.heap h.f hT.1, hf.heap h.i hT.2.1, hf.heap h.j hT.2.2.1, hf.heap h.b hT.2.2.2.1, hf.heap h.y hT.2.2.2.2⟩
theorem InA.next {fd : Array Value} {i j : Int} {b : List UInt8} {l bf bi bj bb by_ : Nat} {w w' : World} (h : InA fd i j b l bf bi bj bb by_ w) (hb : Below w.heap.size w w') : InA fd i j b l bf bi bj bb by_ w' :=
  h.keep (Fr.of_below (O := fun _ => False) hb) (by simp)

theorem inA_start {fd : Array Value} {i j : Int} {b : List UInt8} {l bf bi bj bb : Nat} {W : World} (h1 : W.heap[bf]? = some (.cells fd 55 (0, 0))) (h2 : W.heap[bi]? = some (.cells #[.int .i64 i] 3 (0, 0))) (h3 : W.heap[bj]? = some (.cells #[.int .i64 j] 3 (0, 0))) (h4 : W.heap[bb]? = some (.cells #[.string (bs b)] 9 (0, 0))) :
    InA fd i j b l bf bi bj bb W.heap.size (W.alloc (.cells #[.func (.yield l) #[] #[]] 58)) :=
  ⟨own_keep h1 (Fr.of_below (O := fun _ => False) (bl1 _ _)) (by simp), own_keep h2 (Fr.of_below (O := fun _ => False) (bl1 _ _)) (by simp), own_keep h3 (Fr.of_below (O := fun _ => False) (bl1 _ _)) (by simp), own_keep h4 (Fr.of_below (O := fun _ => False) (bl1 _ _)) (by simp), World.alloc_heap_new _ _⟩

theorem hp_at {w : World} {o : Obj} {k : Nat} (hk : k = w.heap.size) : (w.alloc o).heap[k]? = some o := by subst hk; exact World.alloc_heap_new _ _
theorem hp_old {w : World} {o x : Obj} {k : Nat} (h : w.heap[k]? = some x) : (w.alloc o).heap[k]? = some x := (Below.heap_alloc w o k (Array.getElem?_eq_some_iff.1 h).1).trans h
set_option maxHeartbeats 1000000 in
theorem into_calls (m : Md) (sa : Option Addr) (sn sc : Nat) (ga : Option Addr) (gn gc : Nat) (xa : Option Addr) (xn xc : Nat) (ya : Option Addr) (yn yc : Nat) (i j : Int) (b : List UInt8) (w : World) :
    Calls Try.prog 57 #[.agg (fdCells m sa sn sc ga gn gc xa xn xc ya yn yc), .int .i64 i, .int .i64 j, .string (bs b)] w fun e w' => ∃ bf bi bj bb : Nat, e = .returned (.func (.func 65) #[] #[.pointer (some ⟨bf, 0, none⟩), .pointer (some ⟨bi, 0, none⟩), .pointer (some ⟨bj, 0, none⟩), .pointer (some ⟨bb, 0, none⟩)]) ∧ Below w.heap.size w w' ∧
      (w.heap.size ≤ bf ∧ w.heap.size ≤ bi ∧ w.heap.size ≤ bj ∧ w.heap.size ≤ bb) ∧ w'.heap[bf]? = some (.cells (fdCells m sa sn sc ga gn gc xa xn xc ya yn yc) 55 (0, 0)) ∧ w'.heap[bi]? = some (.cells #[.int .i64 i] 3 (0, 0)) ∧ w'.heap[bj]? = some (.cells #[.int .i64 j] 3 (0, 0)) ∧ w'.heap[bb]? = some (.cells #[.string (bs b)] 9 (0, 0)) := by
  unfold fdCells
  go_enter Try.func57, Try.ntmps57
  go_wp2
  go_ret
  refine ⟨w.heap.size, w.heap.size + 1, w.heap.size + 1 + 1, w.heap.size + 1 + 1 + 1, rfl, ?_, by omega, ?_, ?_, ?_, ?_⟩
  · exact ((((Below.refl _ w).alloc (Nat.le_refl _) _).alloc (by simp) _).alloc (by simp; omega) _).alloc (by simp; omega) _
  · exact hp_old (hp_old (hp_old (hp_at rfl)))
  · exact hp_old (hp_old (hp_at (by simp)))
  · exact hp_old (hp_at (by simp))
  · exact hp_at (by simp)

set_option maxRecDepth 100000 in
set_option maxHeartbeats 2000000 in
theorem into1_no (m : Md) (sa : Option Addr) (sn sc : Nat) (ga : Option Addr) (gn gc : Nat) (xa : Option Addr) (xn xc : Nat) (ya : Option Addr) (yn yc : Nat) (i j : Int) (b : List UInt8) (bf bi bj bb l : Nat) (W : World)
    (hx : xn ≤ maxLen) (hy : yn ≤ maxLen)
    (h1 : W.heap[bf]? = some (.cells (fdCells m sa sn sc ga gn gc xa xn xc ya yn yc) 55 (0, 0))) (h2 : W.heap[bi]? = some (.cells #[.int .i64 i] 3 (0, 0))) (h3 : W.heap[bj]? = some (.cells #[.int .i64 j] 3 (0, 0))) (h4 : W.heap[bb]? = some (.cells #[.string (bs b)] 9 (0, 0)))
    (hh : hasB m xn yn i j = false) :
    CallsIn Fence.wide 0 Try.prog 65 #[.func (.yield l) #[] #[], .pointer (some ⟨bf, 0, none⟩), .pointer (some ⟨bi, 0, none⟩), .pointer (some ⟨bj, 0, none⟩), .pointer (some ⟨bb, 0, none⟩)] W fun e W' => (∃ v, e = .returned v) ∧ Below W.heap.size W W' := by
  have hA := inA_start (l := l) h1 h2 h3 h4
  obtain ⟨c0, c1, c2, c3, c4, c5, c6, c7, c8, c9, c10, c11⟩ := fdC_of hA.f; have ci := cell_block hA.i 0 _ rfl; have cj := cell_block hA.j 0 _ rfl; have cb := cell_block hA.b 0 _ rfl; have cy := cell_block hA.y 0 _ rfl
  refine callsIn_of_wp_marks Try.func65 rfl trivial ?_ rfl
  simp only [Try.ntmps65, List.size_toArray, List.length_cons, List.length_nil, Nat.reduceAdd, Nat.reduceSub, Array.replicate_succ, Array.replicate_zero, List.push_toArray, List.append_toArray, List.nil_append, List.cons_append]
  gi_wp2_with (refine ⟨trivial, rfl, ?_⟩; gi_at_call 45; refine (callsIn_wide.2 (has_calls m sa sn sc ga gn gc xa xn xc ya yn yc i j _ hx hy)).mono ?_; rintro e w1 ⟨rfl, hb1⟩; rw [hh])
  refine ⟨_, results_none rfl _ _ _, ⟨_, rfl⟩, ?_⟩
  exact (bl1 W _).trans (hb1.mono (by simp))

end Go.Proofs.Ytegndeefddlccaa
