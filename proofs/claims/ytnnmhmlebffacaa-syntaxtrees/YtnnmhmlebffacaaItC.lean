/-
  What stands in memory while an item is read.
-/
import Derived.Test.YtnnmhmlebffacaaItB
namespace Go.Proofs.Ytnnmhmlebffacaa
open Go.RowKit Go.Deep

structure ItOk (i : It) : Prop where
  kind : InR i.kind
  name : i.name.length ≤ maxLen
  pl : InR i.pl
def VIt (B : Nat) (i : It) (v : Value) (w : World) : Prop := ∃ ao n c, v = .agg #[.int .i64 i.kind, .string (bs i.name), .slice ao n c, .int .i64 i.pl] ∧ n ≤ maxLen ∧ FoAt true (fun g => B ≤ g) w i.args ao n ∧ ItOk i
/-- The item so far, in its variable; the result's variable; the parser. -/
structure IL (b : Nat) (ta : Option Addr) (tn tc : Nat) (T : List Tk) (w : World) (g3 : Nat) (k : Int) (s : List UInt8) (ao : Option Addr) (n c : Nat) (pl : Int) (F : Fo) (l : List Tk) (f : Int × Int) (W : World) : Prop where
  p : PAt b ta tn tc T l f W
  kp : Kp b w W
  nb : b < w.heap.size
  n3 : w.heap.size < g3
  res : W.heap[w.heap.size]? = some (.cells zeroI 42 (0, 0))
  val : W.heap[g3]? = some (.cells (itArr k s ao n c pl) 42 (0, 0))
  few : n ≤ maxLen
  fo : FoAt true (fun g => w.heap.size ≤ g ∧ g ≠ w.heap.size ∧ g ≠ g3) W F ao n
section
variable {b : Nat} {ta : Option Addr} {tn tc : Nat} {T : List Tk} {w : World} {g3 : Nat} {k : Int} {s : List UInt8} {ao : Option Addr} {n c : Nat} {pl : Int} {F : Fo} {l : List Tk} {f : Int × Int} {W W' : World}
theorem IL.go (h : IL b ta tn tc T w g3 k s ao n c pl F l f W) (hk : Kp b W W') {l' : List Tk} {f' : Int × Int} (hp : PAt b ta tn tc T l' f' W') : IL b ta tn tc T w g3 k s ao n c pl F l' f' W' := by
  have h1 := h.nb
  have h2 := h.n3
  exact ⟨hp, h.kp.trans hk, h1, h2, by rw [hk.block _ (lt_block h.res) (by omega)]; exact h.res, by rw [hk.block _ (lt_block h.val) (by omega)]; exact h.val, h.few, h.fo.kp hk (fun hb => by have := hb.1; omega)⟩
theorem IL.next (h : IL b ta tn tc T w g3 k s ao n c pl F l f W) (hk : Below W.heap.size W W') : IL b ta tn tc T w g3 k s ao n c pl F l f W' := h.go (Kp.of_below hk) (h.p.below hk)
theorem IL.alloc (h : IL b ta tn tc T w g3 k s ao n c pl F l f W) (o : Obj) : IL b ta tn tc T w g3 k s ao n c pl F l f (W.alloc o) := h.next ((Below.refl _ _).alloc (Nat.le_refl _) o)
theorem IL.size (h : IL b ta tn tc T w g3 k s ao n c pl F l f W) : g3 < W.heap.size := lt_block h.val
theorem IL.cells (h : IL b ta tn tc T w g3 k s ao n c pl F l f W) : W.cell? ⟨g3, 0, none⟩ = some (.int .i64 k) ∧ W.cell? ⟨g3, 1, none⟩ = some (.string (bs s)) ∧ W.cell? ⟨g3, 2, none⟩ = some (.slice ao n c) ∧ W.cell? ⟨g3, 3, none⟩ = some (.int .i64 pl) ∧ ∀ i, W.frozen? ⟨g3, i, none⟩ = false :=
  ⟨blk h.val rfl, blk h.val rfl, blk h.val rfl, blk h.val rfl, fun i => blkf i h.val⟩
theorem IL.zeros (h : IL b ta tn tc T w g3 k s ao n c pl F l f W) : W.cell? ⟨w.heap.size, 0, none⟩ = some (.int .i64 0) ∧ W.cell? ⟨w.heap.size, 1, none⟩ = some (.string ⟨#[]⟩) ∧ W.cell? ⟨w.heap.size, 2, none⟩ = some (.slice none 0 0) ∧ W.cell? ⟨w.heap.size, 3, none⟩ = some (.int .i64 0) ∧ ∀ i, W.frozen? ⟨w.heap.size, i, none⟩ = false :=
  ⟨blk h.res rfl, blk h.res rfl, blk h.res rfl, blk h.res rfl, fun i => blkf i h.res⟩
theorem IL.start {w1 : World} (hb : b < w.heap.size) (hK : Kp b (w.alloc (.cells zeroI 42)) w1) (hP : PAt b ta tn tc T l f w1) :
    IL b ta tn tc T w w1.heap.size k [] none 0 0 pl .nil l f (w1.alloc (.cells #[.int .i64 k, .string ⟨#[]⟩, .slice none 0 0, .int .i64 pl] 42)) := by
  have hs : w.heap.size + 1 ≤ w1.heap.size := by have := hK.size; simp at this; omega
  have hbel : Below w1.heap.size w1 (w1.alloc (.cells #[.int .i64 k, .string ⟨#[]⟩, .slice none 0 0, .int .i64 pl] 42)) := (Below.refl _ _).alloc (Nat.le_refl _) _
  have h0 : w1.heap[w.heap.size]? = some (.cells zeroI 42 (0, 0)) := by
    rw [hK.block w.heap.size (by simp) (by omega)]; exact heap_alloc_new w _
  exact ⟨hP.below hbel, ((Kp.refl b w).alloc _).trans (hK.then_below hbel), hb, by omega, heap_old h0, heap_alloc_new w1 _, Nat.zero_le _, rfl⟩
theorem IL.toks (h : IL b ta tn tc T w g3 k s ao n c pl F l f W) {W' : World} (hoth : ∀ g, g ≠ g3 → W'.heap[g]? = W.heap[g]?) : PAt b ta tn tc T l f W' := by
  have h1 := h.nb
  have h2 := h.n3
  obtain ⟨kk, q1, q2, q3⟩ := h.p.block
  refine ⟨⟨kk, q1, q2, by rw [hoth b (by omega)]; exact q3⟩, h.p.toks.keep fun x hx => hoth x.block ?_, h.p.low, h.p.last, h.p.few⟩
  have := h.p.low x hx
  omega
theorem IL.setName (h : IL b ta tn tc T w g3 k s ao n c pl F l f W) (s' : List UInt8) : IL b ta tn tc T w g3 k s' ao n c pl F l f (W.setCell ⟨g3, 1, none⟩ (.string (bs s'))) := by
  have h1 := h.nb
  have h2 := h.n3
  have hoth : ∀ g, g ≠ g3 → (W.setCell ⟨g3, 1, none⟩ (.string (bs s'))).heap[g]? = W.heap[g]? := fun g hg => heap_other rfl hg
  exact ⟨h.toks hoth, h.kp.setNew (by omega) 1 _, h1, h2, by rw [hoth _ (by omega)]; exact h.res, heap_put h.val rfl, h.few, foAt_keep (fun g _ hg => hoth g hg.2.2) h.fo⟩
theorem IL.setArgs (h : IL b ta tn tc T w g3 k s ao n c pl F l f W) {F' : Fo} {ao' : Option Addr} {n' c' : Nat} (hn : n' ≤ maxLen) (hF : FoAt true (fun g => w.heap.size ≤ g ∧ g ≠ w.heap.size ∧ g ≠ g3) W F' ao' n') : IL b ta tn tc T w g3 k s ao' n' c' pl F' l f (W.setCell ⟨g3, 2, none⟩ (.slice ao' n' c')) := by
  have h1 := h.nb
  have h2 := h.n3
  have hoth : ∀ g, g ≠ g3 → (W.setCell ⟨g3, 2, none⟩ (.slice ao' n' c')).heap[g]? = W.heap[g]? := fun g hg => heap_other rfl hg
  exact ⟨h.toks hoth, h.kp.setNew (by omega) 2 _, h1, h2, by rw [hoth _ (by omega)]; exact h.res, heap_put h.val rfl, hn, foAt_keep (fun g _ hg => hoth g hg.2.2) hF⟩
/-- The result's variable takes the item. -/
theorem IL.done (h : IL b ta tn tc T w g3 k s ao n c pl F l f W) (hk : InR k) (hs : s.length ≤ maxLen) (hpl : InR pl) {W' : World} (hW : W' = (((W.setCell ⟨w.heap.size, 0, none⟩ (.int .i64 k)).setCell ⟨w.heap.size, 1, none⟩ (.string (bs s))).setCell ⟨w.heap.size, 2, none⟩ (.slice ao n c)).setCell ⟨w.heap.size, 3, none⟩ (.int .i64 pl)) :
    Kp b w W' ∧ PAt b ta tn tc T l f W' ∧ VIt w.heap.size ⟨k, s, F, pl⟩ (.agg #[.int .i64 k, .string (bs s), .slice ao n c, .int .i64 pl]) W' := by
  have hD : DL b ta tn tc T w 42 zeroI l f W := ⟨h.p, h.kp, h.nb, h.res⟩
  obtain ⟨d1, d2, d3⟩ := hD.done _ _ _ _ hW
  exact ⟨d1, d2, ao, n, c, rfl, h.few, (foAt_keep (fun g _ hg => d3 g hg.2.1) h.fo).base (fun g _ hg => hg.1), hk, hs, hpl⟩
end
theorem kind_range (s : List UInt8) : 0 ≤ itemKindB s ∧ itemKindB s ≤ 10 := by
  unfold itemKindB
  repeat' split
  all_goals omega
/-- What an item says, by what stands behind its word. -/
theorem item_eq {ex : List Tk → Rs Ex} {t : Tk} {r : List Tk} (hk : t.kind = 4) (hi : itemKindB t.text ≠ 0) : itemG ex (t :: r) = (closeG [59] (bodyG ex (itemKindB t.text) r)).map fun b => ⟨itemKindB t.text, b.1, b.2, t.pl⟩ := by
  show (if t.kind = 4 ∧ itemKindB t.text ≠ 0 then _ else _) = _
  rw [if_pos ⟨hk, hi⟩]

end Go.Proofs.Ytnnmhmlebffacaa
