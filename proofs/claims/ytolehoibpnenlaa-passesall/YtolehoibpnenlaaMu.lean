/-
  awake. A recurrence copied.
-/
import Derived.Test.YtolehoibpnenlaaPsJ
import Derived.Test.YtolehoibpnenlaaMx
namespace Go.Proofs.Ytolehoibpnenlaa
open Go.RowKit Go.Deep Go.Maps

theorem dfs_at {W : World} {g : Nat} {l : List Df} {cs : Array Value} {off : Nat} (h : W.heap[g]? = some (.cells cs 36 (0, 0))) (hc : ∀ (j : Nat) (u : Value), (dfRow l)[j]? = some u → cs[off + j]? = some u) (hs : l.length ≤ maxLen) (hf : ∀ d ∈ l, InR d.num) : DfsAt W (some ⟨g, off, none⟩) l.length l := by
  refine ⟨rfl, hs, hf, fun _ => ⟨g, off, rfl, fun i d hi => ?_⟩⟩
  have k : ∀ (j : Nat) (u : Value), (dfCells d)[j]? = some u → W.cell? ⟨g, off + i * 4 + j, none⟩ = some u := fun j u hj => by
    rw [Nat.add_assoc]
    exact blk h (hc _ u (flat_get (f := dfCells) (s := 4) (fun _ => rfl) l i d j u hi hj))
  exact ⟨k 0 _ rfl, k 1 _ rfl, k 2 _ rfl, k 3 _ rfl⟩
theorem int_at {W : World} {g : Nat} {l : List Int} {cs : Array Value} {off : Nat} (h : W.heap[g]? = some (.cells cs 3 (0, 0))) (hc : ∀ (j : Nat) (u : Value), (itRow l)[j]? = some u → cs[off + j]? = some u) (hs : l.length ≤ maxLen) : IntA W (some ⟨g, off, none⟩) l.length l :=
  ⟨rfl, hs, fun i v hi => ⟨g, off, rfl, blk h (hc i _ (by simp [itRow, hi]))⟩⟩
theorem dfs_own {w : World} {base : Nat} {ao : Option Addr} {c : Nat} {l : List Df} (h : w.ownsRow base 36 4 (.slice ao l.length c) l.length (dfRow l)) (hs : l.length ≤ maxLen) (hf : ∀ d ∈ l, InR d.num) : DfsAt w ao l.length l := by
  rcases h.2 with ⟨hv, h0⟩ | ⟨g, cap, cur, hv, _, hg, _, _, _, h4⟩
  · have : l = [] := List.length_eq_zero_iff.1 h0
    subst this
    exact DfsAt.nil _ _
  · injection hv with e1
    subst e1
    refine dfs_at hg (fun j u hj => ?_) hs hf
    rw [← h4] at hj
    rw [Nat.zero_add]
    have h5 : j < (cur.toList.take (l.length * 4)).length := (List.getElem?_eq_some_iff.1 hj).1
    rw [List.getElem?_take_of_lt (by simp at h5; omega)] at hj
    simpa using hj
structure Fit (x : Rc) : Prop where
  nums : ∀ d ∈ x.defs, InR d.num
  defs : x.defs.length ≤ 100000
  subst : x.subst.length ≤ 100000
  states : x.states.length ≤ 1000
theorem RcO.at {w : World} {base : Nat} {x : Rc} {da : Option Addr} {dc : Nat} {sa : Option Addr} {sc : Nat} {ta : Option Addr} {tc : Nat} (h : RcO w base x da dc sa sc ta tc) (hf : Fit x) : RcAt w x da x.defs.length sa x.subst.length ta x.states.length :=
  ⟨dfs_own h.defs (by unfold maxLen; have := hf.defs; omega) hf.nums, intA_own h.subst rfl (by unfold maxLen; have := hf.subst; omega), h.states.at rfl hf.states⟩
theorem rcNil (w : World) (x : Rc) (h1 : x.defs = []) (h2 : x.subst = []) (h3 : x.states = []) : RcAt w x none 0 none 0 none 0 := by
  refine ⟨by rw [h1]; exact DfsAt.nil _ _, ⟨by rw [h2]; rfl, Nat.zero_le _, fun i v hi => by rw [h2] at hi; simp at hi⟩, ⟨by rw [h3]; rfl, Nat.zero_le _, fun h => absurd h (by decide)⟩⟩
def zeroX : Rc := ⟨0, [], [], 0, 0, 0, 0, false, 0, 0, []⟩
def wakeX : Rc := ⟨2, [⟨1, 2, 0, 0⟩, ⟨1, 2, 0, 0⟩, ⟨3, 0, 0, 1⟩], [2, 2, 2, 2], 3, 3, 0, 0, false, 0, 0, []⟩
def wantX : Rc := ⟨2, [⟨1, 2, 0, 0⟩, ⟨1, 4, 0, 0⟩], [1, 1, 1, 1], 3, 3, 0, 0, false, 0, 0, []⟩
theorem wake_fold : (foldP.2 wakeX (valsB wakeX.defs).1).1 = wantX := by kernel_rfl
theorem wake_right : rightR wakeX = true := by kernel_rfl
theorem zero_right : rightR zeroX = false := by kernel_rfl
theorem want_fit : Fit wantX := ⟨fun d hd => by simp [wantX] at hd; rcases hd with rfl | rfl <;> simp [InR], by simp [wantX], by simp [wantX], by simp [wantX]⟩
/-- The literals. -/
theorem lit_at {W : World} {gd gs : Nat} {x : Rc} {cd cs : Array Value} (h1 : W.heap[gd]? = some (.cells cd 36 (0, 0))) (e1 : cd.toList = dfRow x.defs) (h2 : W.heap[gs]? = some (.cells cs 3 (0, 0))) (e2 : cs.toList = itRow x.subst) (h3 : x.states = []) (hf : Fit x) : RcAt W x (some ⟨gd, 0, none⟩) x.defs.length (some ⟨gs, 0, none⟩) x.subst.length none 0 := by
  refine ⟨dfs_at h1 (fun j u hj => by rw [Nat.zero_add, ← Array.getElem?_toList, e1]; exact hj) (by unfold maxLen; have := hf.defs; omega) hf.nums, int_at h2 (fun j u hj => by rw [Nat.zero_add, ← Array.getElem?_toList, e2]; exact hj) (by unfold maxLen; have := hf.subst; omega), ⟨by rw [h3]; rfl, Nat.zero_le _, fun h => absurd h (by decide)⟩⟩
theorem three_blk (W : World) (a b c : Obj) : ((W.alloc a).alloc b |>.alloc c).heap[W.heap.size]? = some a ∧ ((W.alloc a).alloc b |>.alloc c).heap[W.heap.size + 1]? = some b ∧ ((W.alloc a).alloc b |>.alloc c).heap[W.heap.size + 2]? = some c ∧ Below W.heap.size W ((W.alloc a).alloc b |>.alloc c) := by
  have h1 := (Below.refl (W.alloc a).heap.size (W.alloc a)).alloc (Nat.le_refl _) b
  have h2 := (Below.refl ((W.alloc a).alloc b).heap.size ((W.alloc a).alloc b)).alloc (Nat.le_refl _) c
  have s1 : (W.alloc a).heap.size = W.heap.size + 1 := by simp
  have s2 : ((W.alloc a).alloc b).heap.size = W.heap.size + 2 := by simp
  refine ⟨?_, ?_, ?_, (((Below.refl _ _).alloc (Nat.le_refl _) _).alloc (by simp) _).alloc (by simp; omega) _⟩
  · rw [h2.block _ (by rw [s2]; omega), h1.block _ (by rw [s1]; omega)]; exact heap_alloc_new W _
  · rw [h2.block _ (by rw [s2]; omega), ← s1]; exact heap_alloc_new _ _
  · rw [← s2]; exact heap_alloc_new _ _

set_option maxRecDepth 20000 in
set_option maxHeartbeats 4000000 in
theorem awake_calls (w : World) : Calls Try.prog 8 #[] w fun e w' => e = .returned (.bool true) ∧ Below w.heap.size w w' := by
  have HF : Hid (∀ W gd gs, RcAt W wakeX (some ⟨gd, 0, none⟩) 3 (some ⟨gs, 0, none⟩) 4 none 0 → Calls Try.prog 10 #[.agg (rcCells wakeX (some ⟨gd, 0, none⟩) 3 3 (some ⟨gs, 0, none⟩) 4 4 none 0 0)] W fun e w' => PassPost true wantX W e w') := fun W gd gs hW => by
    have := foldF_any (x := wakeX) (.inl foldP_ok) (some ⟨gd, 0, none⟩) 3 3 (some ⟨gs, 0, none⟩) 4 4 none 0 0 W hW
    rw [wake_fold, wake_right] at this
    exact this
  have HZ : Hid (∀ W, Calls Try.prog 16 #[.agg (rcCells zeroX none 0 0 none 0 0 none 0 0)] W fun e w' => PassPost false (drpP.2 zeroX (valsB zeroX.defs).1).1 W e w') := fun W => by
    have := dropF_any (x := zeroX) (.inr zero_right) none 0 0 none 0 0 none 0 0 W (rcNil W zeroX rfl rfl rfl)
    rw [zero_right] at this
    exact this
  have HS : Hid (∀ W da dc sa sc ta tc gd gs, RcAt W wantX da 2 sa 4 ta 0 → RcAt W wantX (some ⟨gd, 0, none⟩) 2 (some ⟨gs, 0, none⟩) 4 none 0 → Calls Try.prog 12 #[.agg (rcCells wantX da 2 dc sa 4 sc ta 0 tc), .agg (rcCells wantX (some ⟨gd, 0, none⟩) 2 2 (some ⟨gs, 0, none⟩) 4 4 none 0 0)] W fun e w' => e = .returned (.bool true) ∧ Below W.heap.size W w') := fun W da dc sa sc ta tc gd gs h1 h2 => same_calls wantX da 2 dc sa 4 sc ta 0 tc (some ⟨gd, 0, none⟩) 2 (some ⟨gs, 0, none⟩) 4 none 0 W h1 h2
  simp only [rcCells, wakeX, wantX, zeroX] at HF HZ HS
  have HW1 : Hid (RcAt (((w.alloc (.cells #[.int .i64 1, .int .i64 2, .int .i64 0, .int .i64 0, .int .i64 1, .int .i64 2, .int .i64 0, .int .i64 0, .int .i64 3, .int .i64 0, .int .i64 0, .int .i64 1] 36)).alloc (.cells #[.int .i64 2, .int .i64 2, .int .i64 2, .int .i64 2] 3)).alloc (.cells #[.int .i64 2, .slice (some ⟨w.heap.size, 0, none⟩) 3 3, .slice (some ⟨w.heap.size + 1, 0, none⟩) 4 4, .int .i64 3, .int .i64 3, .int .i64 0, .int .i64 0, .bool false, .int .i64 0, .int .i64 0, .slice none 0 0] 26)) wakeX (some ⟨w.heap.size, 0, none⟩) 3 (some ⟨w.heap.size + 1, 0, none⟩) 4 none 0 ∧ Below w.heap.size w (((w.alloc (.cells #[.int .i64 1, .int .i64 2, .int .i64 0, .int .i64 0, .int .i64 1, .int .i64 2, .int .i64 0, .int .i64 0, .int .i64 3, .int .i64 0, .int .i64 0, .int .i64 1] 36)).alloc (.cells #[.int .i64 2, .int .i64 2, .int .i64 2, .int .i64 2] 3)).alloc (.cells #[.int .i64 2, .slice (some ⟨w.heap.size, 0, none⟩) 3 3, .slice (some ⟨w.heap.size + 1, 0, none⟩) 4 4, .int .i64 3, .int .i64 3, .int .i64 0, .int .i64 0, .bool false, .int .i64 0, .int .i64 0, .slice none 0 0] 26))) := by
    obtain ⟨q1, q2, q3, q4⟩ := three_blk w (.cells #[.int .i64 1, .int .i64 2, .int .i64 0, .int .i64 0, .int .i64 1, .int .i64 2, .int .i64 0, .int .i64 0, .int .i64 3, .int .i64 0, .int .i64 0, .int .i64 1] 36) (.cells #[.int .i64 2, .int .i64 2, .int .i64 2, .int .i64 2] 3) (.cells #[.int .i64 2, .slice (some ⟨w.heap.size, 0, none⟩) 3 3, .slice (some ⟨w.heap.size + 1, 0, none⟩) 4 4, .int .i64 3, .int .i64 3, .int .i64 0, .int .i64 0, .bool false, .int .i64 0, .int .i64 0, .slice none 0 0] 26)
    exact ⟨lit_at (x := wakeX) q1 rfl q2 rfl rfl ⟨fun d hd => by simp [wakeX] at hd; rcases hd with rfl | rfl <;> simp [InR], by simp [wakeX], by simp [wakeX], by simp [wakeX]⟩, q4⟩
  simp only [wakeX] at HW1
  go_enter Try.func8, Try.ntmps8
  go_wp2_with fail
  refine (HF.out _ _ _ HW1.out.1).mono ?_
  intro e w2 hp
  simp only [PassPost, if_true] at hp
  obtain ⟨da2, dc2, sa2, sc2, ta2, tc2, rfl, hb2, ho2⟩ := hp
  have HW2 : Hid (Below w.heap.size w w2 ∧ ∃ b, RcO w2 b wantX da2 dc2 sa2 sc2 ta2 tc2) := ⟨HW1.out.2.trans (hb2.mono HW1.out.2.size), _, ho2⟩
  clear hb2 ho2 HW1 HF
  unfold rcCells
  simp only [List.length_cons, List.length_nil, Nat.zero_add, Nat.reduceAdd]
  go_wp2_with fail
  refine (HZ.out _).mono ?_
  intro e w3 hp
  simp only [PassPost, Bool.false_eq_true, if_false] at hp
  obtain ⟨rfl, hb3⟩ := hp
  have HW3 : Hid (Below w.heap.size w w3 ∧ (∃ b, RcO w3 b wantX da2 dc2 sa2 sc2 ta2 tc2) ∧ w3.heap[w2.heap.size]? = some (.cells #[.int .i64 2, .slice da2 2 dc2, .slice sa2 4 sc2, .int .i64 3, .int .i64 3, .int .i64 0, .int .i64 0, .bool false, .int .i64 0, .int .i64 0, .slice ta2 0 tc2] 26 (0, 0))) := by
    have h0 : Below w2.heap.size w2 (w2.alloc (.cells #[.int .i64 2, .slice da2 2 dc2, .slice sa2 4 sc2, .int .i64 3, .int .i64 3, .int .i64 0, .int .i64 0, .bool false, .int .i64 0, .int .i64 0, .slice ta2 0 tc2] 26)) := (Below.refl _ _).alloc (Nat.le_refl _) _
    obtain ⟨b, hb⟩ := HW2.out.2
    refine ⟨HW2.out.1.trans ((h0.trans (hb3.mono h0.size)).mono HW2.out.1.size), ⟨b, (hb.below h0).below hb3⟩, ?_⟩
    rw [hb3.block _ (by simp)]
    exact heap_alloc_new w2 _
  clear hb3 HW2 HZ
  unfold zeroR
  obtain ⟨w5, hw5⟩ : ∃ w5, w5 = w3.alloc (.cells #[.int .i64 0, .slice none 0 0, .slice none 0 0, .int .i64 0, .int .i64 0, .int .i64 0, .int .i64 0, .bool false, .int .i64 0, .int .i64 0, .slice none 0 0] 26) := ⟨_, rfl⟩
  have HW5 : Hid (Below w.heap.size w w5 ∧ (∃ b, RcO w5 b wantX da2 dc2 sa2 sc2 ta2 tc2) ∧ w5.heap[w2.heap.size]? = some (.cells #[.int .i64 2, .slice da2 2 dc2, .slice sa2 4 sc2, .int .i64 3, .int .i64 3, .int .i64 0, .int .i64 0, .bool false, .int .i64 0, .int .i64 0, .slice ta2 0 tc2] 26 (0, 0))) := by
    have h0 : Below w3.heap.size w3 w5 := by rw [hw5]; exact (Below.refl _ _).alloc (Nat.le_refl _) _
    obtain ⟨b, hb⟩ := HW3.out.2.1
    refine ⟨HW3.out.1.trans (h0.mono HW3.out.1.size), ⟨b, hb.below h0⟩, ?_⟩
    rw [h0.block _ (lt_block HW3.out.2.2)]
    exact HW3.out.2.2
  clear HW3
  go_upto_region 4 with (fail)
  rw [← hw5]
  clear hw5
  have HW6 : Hid (RcAt (((w5.alloc (.cells #[.int .i64 1, .int .i64 2, .int .i64 0, .int .i64 0, .int .i64 1, .int .i64 4, .int .i64 0, .int .i64 0] 36)).alloc (.cells #[.int .i64 1, .int .i64 1, .int .i64 1, .int .i64 1] 3)).alloc (.cells #[.int .i64 2, .slice (some ⟨w5.heap.size, 0, none⟩) 2 2, .slice (some ⟨w5.heap.size + 1, 0, none⟩) 4 4, .int .i64 3, .int .i64 3, .int .i64 0, .int .i64 0, .bool false, .int .i64 0, .int .i64 0, .slice none 0 0] 26)) wantX da2 2 sa2 4 ta2 0 ∧ RcAt (((w5.alloc (.cells #[.int .i64 1, .int .i64 2, .int .i64 0, .int .i64 0, .int .i64 1, .int .i64 4, .int .i64 0, .int .i64 0] 36)).alloc (.cells #[.int .i64 1, .int .i64 1, .int .i64 1, .int .i64 1] 3)).alloc (.cells #[.int .i64 2, .slice (some ⟨w5.heap.size, 0, none⟩) 2 2, .slice (some ⟨w5.heap.size + 1, 0, none⟩) 4 4, .int .i64 3, .int .i64 3, .int .i64 0, .int .i64 0, .bool false, .int .i64 0, .int .i64 0, .slice none 0 0] 26)) wantX (some ⟨w5.heap.size, 0, none⟩) 2 (some ⟨w5.heap.size + 1, 0, none⟩) 4 none 0 ∧ Below w.heap.size w (((w5.alloc (.cells #[.int .i64 1, .int .i64 2, .int .i64 0, .int .i64 0, .int .i64 1, .int .i64 4, .int .i64 0, .int .i64 0] 36)).alloc (.cells #[.int .i64 1, .int .i64 1, .int .i64 1, .int .i64 1] 3)).alloc (.cells #[.int .i64 2, .slice (some ⟨w5.heap.size, 0, none⟩) 2 2, .slice (some ⟨w5.heap.size + 1, 0, none⟩) 4 4, .int .i64 3, .int .i64 3, .int .i64 0, .int .i64 0, .bool false, .int .i64 0, .int .i64 0, .slice none 0 0] 26)) ∧ (((w5.alloc (.cells #[.int .i64 1, .int .i64 2, .int .i64 0, .int .i64 0, .int .i64 1, .int .i64 4, .int .i64 0, .int .i64 0] 36)).alloc (.cells #[.int .i64 1, .int .i64 1, .int .i64 1, .int .i64 1] 3)).alloc (.cells #[.int .i64 2, .slice (some ⟨w5.heap.size, 0, none⟩) 2 2, .slice (some ⟨w5.heap.size + 1, 0, none⟩) 4 4, .int .i64 3, .int .i64 3, .int .i64 0, .int .i64 0, .bool false, .int .i64 0, .int .i64 0, .slice none 0 0] 26)).heap[w2.heap.size]? = some (.cells #[.int .i64 2, .slice da2 2 dc2, .slice sa2 4 sc2, .int .i64 3, .int .i64 3, .int .i64 0, .int .i64 0, .bool false, .int .i64 0, .int .i64 0, .slice ta2 0 tc2] 26 (0, 0)) ∧ (((w5.alloc (.cells #[.int .i64 1, .int .i64 2, .int .i64 0, .int .i64 0, .int .i64 1, .int .i64 4, .int .i64 0, .int .i64 0] 36)).alloc (.cells #[.int .i64 1, .int .i64 1, .int .i64 1, .int .i64 1] 3)).alloc (.cells #[.int .i64 2, .slice (some ⟨w5.heap.size, 0, none⟩) 2 2, .slice (some ⟨w5.heap.size + 1, 0, none⟩) 4 4, .int .i64 3, .int .i64 3, .int .i64 0, .int .i64 0, .bool false, .int .i64 0, .int .i64 0, .slice none 0 0] 26)).heap[w5.heap.size + 2]? = some (.cells #[.int .i64 2, .slice (some ⟨w5.heap.size, 0, none⟩) 2 2, .slice (some ⟨w5.heap.size + 1, 0, none⟩) 4 4, .int .i64 3, .int .i64 3, .int .i64 0, .int .i64 0, .bool false, .int .i64 0, .int .i64 0, .slice none 0 0] 26 (0, 0))) := by
    obtain ⟨q1, q2, q3, q4⟩ := three_blk w5 (.cells #[.int .i64 1, .int .i64 2, .int .i64 0, .int .i64 0, .int .i64 1, .int .i64 4, .int .i64 0, .int .i64 0] 36) (.cells #[.int .i64 1, .int .i64 1, .int .i64 1, .int .i64 1] 3) (.cells #[.int .i64 2, .slice (some ⟨w5.heap.size, 0, none⟩) 2 2, .slice (some ⟨w5.heap.size + 1, 0, none⟩) 4 4, .int .i64 3, .int .i64 3, .int .i64 0, .int .i64 0, .bool false, .int .i64 0, .int .i64 0, .slice none 0 0] 26)
    obtain ⟨b, hb⟩ := HW5.out.2.1
    refine ⟨(hb.below q4).at want_fit, lit_at (x := wantX) q1 rfl q2 rfl rfl want_fit, HW5.out.1.trans (q4.mono HW5.out.1.size), ?_, q3⟩
    rw [q4.block _ (lt_block HW5.out.2.2)]
    exact HW5.out.2.2
  go_upto_region 5 with (fail)
  obtain ⟨w6, hw6⟩ : ∃ w6, w6 = (((w5.alloc (.cells #[.int .i64 1, .int .i64 2, .int .i64 0, .int .i64 0, .int .i64 1, .int .i64 4, .int .i64 0, .int .i64 0] 36)).alloc (.cells #[.int .i64 1, .int .i64 1, .int .i64 1, .int .i64 1] 3)).alloc (.cells #[.int .i64 2, .slice (some ⟨w5.heap.size, 0, none⟩) 2 2, .slice (some ⟨w5.heap.size + 1, 0, none⟩) 4 4, .int .i64 3, .int .i64 3, .int .i64 0, .int .i64 0, .bool false, .int .i64 0, .int .i64 0, .slice none 0 0] 26)) := ⟨_, rfl⟩
  rw [← hw6] at HW6 ⊢
  clear hw6
  have c0 : w6.cell? ⟨w2.heap.size, 0, none⟩ = some (.int .i64 2) := blk HW6.out.2.2.2.1 rfl
  have c1 : w6.cell? ⟨w2.heap.size, 1, none⟩ = some (.slice da2 2 dc2) := blk HW6.out.2.2.2.1 rfl
  have c2 : w6.cell? ⟨w2.heap.size, 2, none⟩ = some (.slice sa2 4 sc2) := blk HW6.out.2.2.2.1 rfl
  have c3 : w6.cell? ⟨w2.heap.size, 3, none⟩ = some (.int .i64 3) := blk HW6.out.2.2.2.1 rfl
  have c4 : w6.cell? ⟨w2.heap.size, 4, none⟩ = some (.int .i64 3) := blk HW6.out.2.2.2.1 rfl
  have c5 : w6.cell? ⟨w2.heap.size, 5, none⟩ = some (.int .i64 0) := blk HW6.out.2.2.2.1 rfl
  have c6 : w6.cell? ⟨w2.heap.size, 6, none⟩ = some (.int .i64 0) := blk HW6.out.2.2.2.1 rfl
  have c7 : w6.cell? ⟨w2.heap.size, 7, none⟩ = some (.bool false) := blk HW6.out.2.2.2.1 rfl
  have c8 : w6.cell? ⟨w2.heap.size, 8, none⟩ = some (.int .i64 0) := blk HW6.out.2.2.2.1 rfl
  have c9 : w6.cell? ⟨w2.heap.size, 9, none⟩ = some (.int .i64 0) := blk HW6.out.2.2.2.1 rfl
  have c10 : w6.cell? ⟨w2.heap.size, 10, none⟩ = some (.slice ta2 0 tc2) := blk HW6.out.2.2.2.1 rfl
  have d0 : w6.cell? ⟨w5.heap.size + 2, 0, none⟩ = some (.int .i64 2) := blk HW6.out.2.2.2.2 rfl
  have d1 : w6.cell? ⟨w5.heap.size + 2, 1, none⟩ = some (.slice (some ⟨w5.heap.size, 0, none⟩) 2 2) := blk HW6.out.2.2.2.2 rfl
  have d2 : w6.cell? ⟨w5.heap.size + 2, 2, none⟩ = some (.slice (some ⟨w5.heap.size + 1, 0, none⟩) 4 4) := blk HW6.out.2.2.2.2 rfl
  have d3 : w6.cell? ⟨w5.heap.size + 2, 3, none⟩ = some (.int .i64 3) := blk HW6.out.2.2.2.2 rfl
  have d4 : w6.cell? ⟨w5.heap.size + 2, 4, none⟩ = some (.int .i64 3) := blk HW6.out.2.2.2.2 rfl
  have d5 : w6.cell? ⟨w5.heap.size + 2, 5, none⟩ = some (.int .i64 0) := blk HW6.out.2.2.2.2 rfl
  have d6 : w6.cell? ⟨w5.heap.size + 2, 6, none⟩ = some (.int .i64 0) := blk HW6.out.2.2.2.2 rfl
  have d7 : w6.cell? ⟨w5.heap.size + 2, 7, none⟩ = some (.bool false) := blk HW6.out.2.2.2.2 rfl
  have d8 : w6.cell? ⟨w5.heap.size + 2, 8, none⟩ = some (.int .i64 0) := blk HW6.out.2.2.2.2 rfl
  have d9 : w6.cell? ⟨w5.heap.size + 2, 9, none⟩ = some (.int .i64 0) := blk HW6.out.2.2.2.2 rfl
  have d10 : w6.cell? ⟨w5.heap.size + 2, 10, none⟩ = some (.slice none 0 0) := blk HW6.out.2.2.2.2 rfl
  simp only [wantX] at HW6
  go_wp2_with fail
  refine (HS.out w6 _ _ _ _ _ _ _ _ HW6.out.1 HW6.out.2.1).mono ?_
  rintro e w7 ⟨rfl, hb7⟩
  have HB7 : Hid (Below w.heap.size w w7) := HW6.out.2.2.1.trans (hb7.mono HW6.out.2.2.1.size)
  clear hb7
  go_wp2
  go_ret
  exact ⟨rfl, HB7.out⟩
end Go.Proofs.Ytolehoibpnenlaa
namespace Go.Proofs.Ytolehoibpnenlaa
open Go.RowKit Go.Deep Go.Maps

/-- What is not longer than can be. -/
structure RcB (x : Rc) : Prop where
  defs : x.defs.length ≤ 4398046511104
  subst : x.subst.length ≤ 17592186044416
  states : x.states.length ≤ 4398046511104
  edges : ∀ s ∈ x.states, s.2.length ≤ 8796093022208
theorem right_rcB {x : Rc} (h : rightR x = true) : RcB x := by
  have h1 := (right_defs h).1
  have h2 := (right_subst h).1
  have h3 := (right_states h).1
  exact ⟨by omega, by omega, by omega, fun s hs => by have := right_edges h s hs; omega⟩
/-- The edges of each state lie in a row of their own. -/
def Own3 (w : World) (base : Nat) (sl : List Sr) (l : List St) : Prop := sl.length = l.length ∧ ∀ (i : Nat) (r : Sr) (s : St), sl[i]? = some r → l[i]? = some s → r.1 = s.1 ∧ r.2.2.1 = s.2.length ∧ w.ownsRow base 49 2 (.slice r.2.1 r.2.2.1 r.2.2.2) r.2.2.1 (pcRow s.2)
theorem Own3.below {w w' : World} {base : Nat} {sl : List Sr} {l : List St} (h : Own3 w base sl l) (hb : Below w.heap.size w w') : Own3 w' base sl l :=
  ⟨h.1, fun i r s hi hs => ⟨(h.2 i r s hi hs).1, (h.2 i r s hi hs).2.1, owned_below (h.2 i r s hi hs).2.2 hb⟩⟩
theorem Own3.grown {w w' : World} {base b2 : Nat} {sl : List Sr} {l : List St} (h : Own3 w base sl l) {v : Value} {n : Nat} {xs : List Value} (ho : w.ownsRow b2 39 2 v n xs) (hg : w.grownBy w' v.ownBlock) : Own3 w' base sl l :=
  ⟨h.1, fun i r s hi hs => ⟨(h.2 i r s hi hs).1, (h.2 i r s hi hs).2.1, owned_grown (h.2 i r s hi hs).2.2 ho (by decide) hg⟩⟩
theorem Own3.kind {w w' : World} {base : Nat} {sl : List Sr} {l : List St} {g : Nat} {cs : Array Value} {t : TypeId} (h : Own3 w base sl l) (hb : w.heap[g]? = some (.cells cs t (0, 0))) (ht : 49 ≠ t) (hg : w.grownBy w' (some g)) : Own3 w' base sl l :=
  ⟨h.1, fun i r s hi hs => ⟨(h.2 i r s hi hs).1, (h.2 i r s hi hs).2.1, own_kind (h.2 i r s hi hs).2.2 hb ht hg⟩⟩
theorem Own3.snoc {w : World} {base : Nat} {sl : List Sr} {l : List St} (h : Own3 w base sl l) {k : Int} {es : List (Int × Int)} {a : Option Addr} {n c : Nat} (hn : n = es.length) (ho : w.ownsRow base 49 2 (.slice a n c) n (pcRow es)) : Own3 w base (sl ++ [(k, a, n, c)]) (l ++ [(k, es)]) := by
  refine ⟨by simp [h.1], fun i r s hi hs => ?_⟩
  by_cases hlt : i < sl.length
  · rw [List.getElem?_append_left hlt] at hi
    rw [List.getElem?_append_left (by rw [← h.1]; exact hlt)] at hs
    exact h.2 i r s hi hs
  · have hlen := h.1
    have h1 := (List.getElem?_eq_some_iff.1 hi).1
    simp at h1
    obtain rfl : i = sl.length := by omega
    rw [List.getElem?_append_right (Nat.le_refl _), Nat.sub_self] at hi
    rw [hlen, List.getElem?_append_right (Nat.le_refl _), Nat.sub_self] at hs
    simp at hi hs
    subst hi; subst hs
    exact ⟨rfl, hn, ho⟩
theorem Dj.snoc {sl : List Sr} {r : Sr} (h : Dj sl) (hn : ∀ (j : Nat) (r' : Sr) (a : Addr), sl[j]? = some r' → r'.2.1 = some a → r.2.1 ≠ some a) : Dj (sl ++ [r]) := by
  intro i j r1 r2 a hij h1 h2 ha hb
  by_cases hi : i < sl.length
  · rw [List.getElem?_append_left hi] at h1
    by_cases hj : j < sl.length
    · rw [List.getElem?_append_left hj] at h2
      exact h i j r1 r2 a hij h1 h2 ha hb
    · have := (List.getElem?_eq_some_iff.1 h2).1
      simp at this
      obtain rfl : j = sl.length := by omega
      simp at h2
      subst h2
      exact hn i r1 a h1 ha hb
  · have := (List.getElem?_eq_some_iff.1 h1).1
    simp at this
    obtain rfl : i = sl.length := by omega
    simp at h1
    subst h1
    have h3 := (List.getElem?_eq_some_iff.1 h2).1
    simp at h3
    rw [List.getElem?_append_left (by omega)] at h2
    exact hn j r2 a h2 hb ha
/-- A copy. -/
structure CpO (w : World) (base : Nat) (x : Rc) (da : Option Addr) (dc : Nat) (sa : Option Addr) (sc : Nat) (ta : Option Addr) (tc : Nat) (sl : List Sr) : Prop where
  defs : w.ownsRow base 36 4 (.slice da x.defs.length dc) x.defs.length (dfRow x.defs)
  subst : w.ownsRow base 3 1 (.slice sa x.subst.length sc) x.subst.length (itRow x.subst)
  states : w.ownsRow base 39 2 (.slice ta x.states.length tc) x.states.length (srRow sl)
  rows : Own3 w base sl x.states
  apart : Dj sl
theorem CpO.below {w w' : World} {base : Nat} {x : Rc} {da : Option Addr} {dc : Nat} {sa : Option Addr} {sc : Nat} {ta : Option Addr} {tc : Nat} {sl : List Sr} (h : CpO w base x da dc sa sc ta tc sl) (hb : Below w.heap.size w w') : CpO w' base x da dc sa sc ta tc sl :=
  ⟨owned_below h.defs hb, owned_below h.subst hb, owned_below h.states hb, h.rows.below hb, h.apart⟩
theorem CpO.at {w : World} {base : Nat} {x : Rc} {da : Option Addr} {dc : Nat} {sa : Option Addr} {sc : Nat} {ta : Option Addr} {tc : Nat} {sl : List Sr} (h : CpO w base x da dc sa sc ta tc sl) (hf : ∀ d ∈ x.defs, InR d.num) (hb : RcB x) : RcAt w x da x.defs.length sa x.subst.length ta x.states.length := by
  refine ⟨dfs_own h.defs (by unfold maxLen; have := hb.defs; omega) hf, intA_own h.subst rfl (by unfold maxLen; have := hb.subst; omega), ⟨rfl, by unfold maxLen; have := hb.states; omega, fun h0 => ?_⟩⟩
  obtain ⟨g, cap, hv, _⟩ := owned_some h.states h0
  have hst := h.states
  injection hv with e1
  subst e1
  refine ⟨g, 0, rfl, fun i s hs => ?_⟩
  obtain ⟨r, hr⟩ : ∃ r, sl[i]? = some r := ⟨sl[i]'(by rw [h.rows.1]; exact (List.getElem?_eq_some_iff.1 hs).1), List.getElem?_eq_getElem _⟩
  obtain ⟨k1, k2, k3⟩ := h.rows.2 i r s hr hs
  have c0 := (owned_cells hst (i * 2 + 0) _ (flat_get (f := srCells) (s := 2) (fun _ => rfl) sl i r 0 _ hr rfl)).1
  have c1 := (owned_cells hst (i * 2 + 1) _ (flat_get (f := srCells) (s := 2) (fun _ => rfl) sl i r 1 _ hr rfl)).1
  rw [k2] at k3
  obtain ⟨ao, cp, e2, hp⟩ := pcs_own k3 (by unfold maxLen; have := hb.edges s (List.mem_of_getElem? hs); omega)
  injection e2 with e3
  refine ⟨r.2.1, r.2.2.1, r.2.2.2, by rw [Nat.zero_add, ← k1]; exact c0, by rw [Nat.zero_add]; exact c1, ?_⟩
  rw [e3, k2]; exact hp
theorem CpO.rcO {w : World} {base : Nat} {x : Rc} {da : Option Addr} {dc : Nat} {sa : Option Addr} {sc : Nat} {ta : Option Addr} {tc : Nat} {sl : List Sr} (h : CpO w base x da dc sa sc ta tc sl) (he : ∀ s ∈ x.states, s.2.length ≤ 100) : RcO w base x da dc sa sc ta tc :=
  ⟨h.defs, h.subst, ⟨sl, h.states, h.rows.1, fun i r s hi hs => ⟨(h.rows.2 i r s hi hs).1, (h.rows.2 i r s hi hs).2.1, he s (List.mem_of_getElem? hs), (h.rows.2 i r s hi hs).2.2⟩⟩⟩
/-- The box, the result, the copy. -/
structure C6 (w : World) (cs os : Array Value) (wr : World) : Prop where
  d5 : D5 w cs wr
  out : wr.heap[w.heap.size + 2]? = some (.cells os 26 (0, 0))
theorem C6.next {w : World} {cs os : Array Value} {wr w2 : World} (h : C6 w cs os wr) {B : Nat} (hb : Below B wr w2) (hB : w.heap.size + 3 ≤ B) : C6 w cs os w2 :=
  ⟨h.d5.next hb (by omega), by rw [hb.block _ (by omega)]; exact h.out⟩
theorem C6.sz {w : World} {cs os : Array Value} {wr : World} (h : C6 w cs os wr) : w.heap.size + 3 ≤ wr.heap.size := lt_block h.out
theorem C6.put {w : World} {cs os : Array Value} {wr : World} (h : C6 w cs os wr) (i : Nat) (v : Value) : C6 w cs (os.setIfInBounds i v) (wr.setCell ⟨w.heap.size + 2, i, none⟩ v) := by
  have hg := grown_set wr (w.heap.size + 2) i v
  refine ⟨⟨h.d5.low.grown hg h.d5.low.size (fun k hk => by cases hk; omega), ?_, ?_⟩, heap_set v h.out⟩
  · rw [hg.block _ (lt_block h.d5.box) (fun e => by injection e with e; omega)]; exact h.d5.box
  · rw [hg.block _ (lt_block h.d5.res) (fun e => by injection e with e; omega)]; exact h.d5.res
theorem C6.grown {w : World} {cs os : Array Value} {wr w2 : World} (h : C6 w cs os wr) {r : Option Nat} (hg : wr.grownBy w2 r) (hr : ∀ k, r = some k → w.heap.size + 3 ≤ k) : C6 w cs os w2 :=
  h.next (B := w.heap.size + 3) ⟨hg.os, hg.tape, hg.output, hg.size, fun k hk => hg.block k (by have := h.sz; omega) (fun e => by have := hr k e.symm; omega)⟩ (Nat.le_refl _)
theorem owned_from' {w : World} {base : Nat} {e : TypeId} {size : Nat} {v : Value} {n : Nat} {xs : List Value} (h : w.ownsRow base e size v n xs) : ∀ k, v.ownBlock = some k → base ≤ k ∧ k < w.heap.size := fun k hk => by
  rcases h.2 with ⟨hv, _⟩ | ⟨g', cap', cur, hv, hb', hg, _⟩
  · rw [hv] at hk; cases hk
  · rw [hv] at hk; simp [Value.ownBlock] at hk; subst hk; exact ⟨hb', lt_block hg⟩
theorem sr_new' (W : World) (k : Int) (a : Option Addr) (n c : Nat) : SrcAt (W.alloc (.cells #[.int .i64 k, .slice a n c] 39)) (some ⟨W.heap.size, 0, none⟩) 1 2 (srCells (k, a, n, c)) := by
  refine ⟨rfl, fun u hu => ?_, .inr ⟨_, rfl, cells_new W (srCells (k, a, n, c)) 39⟩⟩
  simp [srCells] at hu
  rcases hu with rfl | rfl <;> rfl

set_option maxRecDepth 20000 in
set_option maxHeartbeats 8000000 in
theorem copyL_calls (x : Rc) (da : Option Addr) (dn dc : Nat) (sa : Option Addr) (sn sc : Nat) (ta : Option Addr) (tn tc : Nat) (w : World) (h : RcAt w x da dn sa sn ta tn) (hb : RcB x) :
    Calls Try.prog 9 #[.agg (rcCells x da dn dc sa sn sc ta tn tc)] w fun e w' => ∃ da2 dc2 sa2 sc2 ta2 tc2 sl, e = .returned (.agg (rcCells x da2 x.defs.length dc2 sa2 x.subst.length sc2 ta2 x.states.length tc2)) ∧ Below w.heap.size w w' ∧ CpO w' w.heap.size x da2 dc2 sa2 sc2 ta2 tc2 sl := by
  have hres : Try.f9.results = #[.cell 2 26] := by kernel_rfl
  have HR : Hid (RcAt w x da dn sa sn ta tn ∧ RcB x) := ⟨h, hb⟩
  have hdn : dn ≤ 4398046511104 := by rw [← h.defs.length]; exact hb.defs
  have hsn : sn ≤ 17592186044416 := by rw [← h.subst.length]; exact hb.subst
  have htn : tn ≤ 4398046511104 := by rw [← h.states.length]; exact hb.states
  have HL : Hid (x.defs.length = dn ∧ x.subst.length = sn ∧ x.states.length = tn) := ⟨h.defs.length, h.subst.length, h.states.length⟩
  have HC0 : Hid (C6 w (rcCells x da dn dc sa sn sc ta tn tc) (rcCells x da dn dc sa sn sc ta tn tc) (((w.alloc (.cells (rcCells x da dn dc sa sn sc ta tn tc) 26)).alloc (.cells #[.int .i64 0, .slice none 0 0, .slice none 0 0, .int .i64 0, .int .i64 0, .int .i64 0, .int .i64 0, .bool false, .int .i64 0, .int .i64 0, .slice none 0 0] 26)).alloc (.cells (rcCells x da dn dc sa sn sc ta tn tc) 26))) := by
    have hd := D5.start w (rcCells x da dn dc sa sn sc ta tn tc)
    refine ⟨hd.next ((Below.refl _ _).alloc (Nat.le_refl _) _) (by simp), ?_⟩
    have := heap_alloc_new ((w.alloc (.cells (rcCells x da dn dc sa sn sc ta tn tc) 26)).alloc (.cells #[.int .i64 0, .slice none 0 0, .slice none 0 0, .int .i64 0, .int .i64 0, .int .i64 0, .int .i64 0, .bool false, .int .i64 0, .int .i64 0, .slice none 0 0] 26)) (.cells (rcCells x da dn dc sa sn sc ta tn tc) 26)
    simpa using this
  obtain ⟨i36, hi36, hz360, hz361, hz362⟩ := info_parts info36
  obtain ⟨i3, hi3, hz30, hz31, hz32⟩ := info_parts info3
  obtain ⟨i39, hi39, hz390, hz391, hz392⟩ := info_parts info52
  obtain ⟨i49, hi49, hz490, hz491, hz492⟩ := info_parts info54
  clear h hb
  unfold rcCells at HC0 ⊢
  go_enter Try.func9, Try.ntmps9
  go_upto_region 2 with (fail)
  obtain ⟨W3, hW3⟩ : ∃ W3, W3 = ((w.alloc (.cells #[.int .i64 x.letters, .slice da dn dc, .slice sa sn sc, .int .i64 x.beg, .int .i64 x.fin, .int .i64 x.front, .int .i64 x.back, .bool x.banded, .int .i64 x.lo, .int .i64 x.hi, .slice ta tn tc] 26)).alloc (.cells #[.int .i64 0, .slice none 0 0, .slice none 0 0, .int .i64 0, .int .i64 0, .int .i64 0, .int .i64 0, .bool false, .int .i64 0, .int .i64 0, .slice none 0 0] 26)).alloc (.cells #[.int .i64 x.letters, .slice da dn dc, .slice sa sn sc, .int .i64 x.beg, .int .i64 x.fin, .int .i64 x.front, .int .i64 x.back, .bool x.banded, .int .i64 x.lo, .int .i64 x.hi, .slice ta tn tc] 26) := ⟨_, rfl⟩
  rw [← hW3] at HC0 ⊢
  have HZ3 : Hid (W3.heap.size = w.heap.size + 3) := by rw [hW3]; simp [Hid]
  clear hW3
  -- the definitions
  have HO : Hid ((W3.alloc (.cells #[] 36)).ownsRow W3.heap.size 36 4 (.slice (some ⟨W3.heap.size, 0, none⟩) 0 0) 0 [] ∧ Below W3.heap.size W3 (W3.alloc (.cells #[] 36)) ∧ SrcAt (W3.alloc (.cells #[] 36)) da dn 4 (dfRow x.defs)) := by
    have hb := (Below.refl W3.heap.size W3).alloc (Nat.le_refl _) (.cells #[] 36)
    exact ⟨empty_row W3 36 4 W3.heap.size (Nat.le_refl _) _ rfl, hb, src_dfs (HR.out.1.defs.below (HC0.out.d5.low.trans (hb.mono HC0.out.d5.low.size)))⟩
  have c1 : ∀ o, (W3.alloc o).cell? ⟨w.heap.size, 1, none⟩ = some (.slice da dn dc) := fun o => Lib.cell?_alloc_some _ (blk HC0.out.d5.box rfl)
  go_wp2_with (at_builtin; refine wpList_append_opt rfl _ _ 22 rfl W3.heap.size 36 i36 _ 4 32 Try.underlying22 hi36 hz360 hz361 hz362 rfl (by decide) (.slice (some ⟨W3.heap.size, 0, none⟩) 0 0) 0 [] rfl HO.out.1 da dn dc (dfRow x.defs) rfl HO.out.2.2 (by unfold maxLen; omega) (by omega) HO.out.2.1.size ?_)
  intro v' w4 ho hg
  obtain ⟨da2, dc2, rfl⟩ := owned_shape ho
  have HD : Hid (C6 w #[.int .i64 x.letters, .slice da dn dc, .slice sa sn sc, .int .i64 x.beg, .int .i64 x.fin, .int .i64 x.front, .int .i64 x.back, .bool x.banded, .int .i64 x.lo, .int .i64 x.hi, .slice ta tn tc] #[.int .i64 x.letters, .slice da dn dc, .slice sa sn sc, .int .i64 x.beg, .int .i64 x.fin, .int .i64 x.front, .int .i64 x.back, .bool x.banded, .int .i64 x.lo, .int .i64 x.hi, .slice ta tn tc] w4 ∧ w4.ownsRow W3.heap.size 36 4 (.slice da2 dn dc2) dn (dfRow x.defs)) := by
    refine ⟨(HC0.out.next HO.out.2.1 HC0.out.sz).grown hg (fun k hk => ?_), ho⟩
    have := (owned_from' HO.out.1 k hk).1
    have := HC0.out.sz
    omega
  clear ho hg HO c1
  have d1 : w4.cell? ⟨w.heap.size + 2, 1, none⟩ = some (.slice da dn dc) := blk HD.out.1.out rfl
  have ff : ∀ i, w4.frozen? ⟨w.heap.size + 2, i, none⟩ = false := fun i => frozen_of_row w4 _ i _ _ HD.out.1.out
  go_upto_region 3 with (fail)
  obtain ⟨w5, hw5⟩ : ∃ w5, w5 = w4.setCell ⟨w.heap.size + 2, 1, none⟩ (.slice da2 dn dc2) := ⟨_, rfl⟩
  rw [← hw5]
  have HD5 : Hid (C6 w #[.int .i64 x.letters, .slice da dn dc, .slice sa sn sc, .int .i64 x.beg, .int .i64 x.fin, .int .i64 x.front, .int .i64 x.back, .bool x.banded, .int .i64 x.lo, .int .i64 x.hi, .slice ta tn tc] #[.int .i64 x.letters, .slice da2 dn dc2, .slice sa sn sc, .int .i64 x.beg, .int .i64 x.fin, .int .i64 x.front, .int .i64 x.back, .bool x.banded, .int .i64 x.lo, .int .i64 x.hi, .slice ta tn tc] w5 ∧ w5.ownsRow W3.heap.size 36 4 (.slice da2 dn dc2) dn (dfRow x.defs)) := by
    rw [hw5]
    exact ⟨HD.out.1.put 1 _, own_kind HD.out.2 HD.out.1.out (by decide) (grown_set _ _ _ _)⟩
  clear hw5 HD d1 ff
  -- the substitutions
  have HO : Hid ((w5.alloc (.cells #[] 3)).ownsRow W3.heap.size 3 1 (.slice (some ⟨w5.heap.size, 0, none⟩) 0 0) 0 [] ∧ Below w5.heap.size w5 (w5.alloc (.cells #[] 3)) ∧ SrcAt (w5.alloc (.cells #[] 3)) sa sn 1 (itRow x.subst)) := by
    have hb := (Below.refl w5.heap.size w5).alloc (Nat.le_refl _) (.cells #[] 3)
    exact ⟨empty_row w5 3 1 W3.heap.size (by have := HD5.out.1.sz; have := HZ3.out; omega) _ rfl, hb, src_ints (HR.out.1.subst.below (HD5.out.1.d5.low.trans (hb.mono HD5.out.1.d5.low.size)))⟩
  have c2 : ∀ o, (w5.alloc o).cell? ⟨w.heap.size, 2, none⟩ = some (.slice sa sn sc) := fun o => Lib.cell?_alloc_some _ (blk HD5.out.1.d5.box rfl)
  go_wp2_with (at_builtin; refine wpList_append_opt rfl _ _ 23 rfl W3.heap.size 3 i3 _ 1 8 Try.underlying23 hi3 hz30 hz31 hz32 rfl (by decide) (.slice (some ⟨w5.heap.size, 0, none⟩) 0 0) 0 [] rfl HO.out.1 sa sn sc (itRow x.subst) rfl HO.out.2.2 (by unfold maxLen; omega) (by omega) (by have := HD5.out.1.sz; have := HZ3.out; have := HO.out.2.1.size; omega) ?_)
  intro v' w6 ho hg
  obtain ⟨sa2, sc2, rfl⟩ := owned_shape ho
  have HD6 : Hid (C6 w #[.int .i64 x.letters, .slice da dn dc, .slice sa sn sc, .int .i64 x.beg, .int .i64 x.fin, .int .i64 x.front, .int .i64 x.back, .bool x.banded, .int .i64 x.lo, .int .i64 x.hi, .slice ta tn tc] #[.int .i64 x.letters, .slice da2 dn dc2, .slice sa sn sc, .int .i64 x.beg, .int .i64 x.fin, .int .i64 x.front, .int .i64 x.back, .bool x.banded, .int .i64 x.lo, .int .i64 x.hi, .slice ta tn tc] w6 ∧ w6.ownsRow W3.heap.size 36 4 (.slice da2 dn dc2) dn (dfRow x.defs) ∧ w6.ownsRow W3.heap.size 3 1 (.slice sa2 sn sc2) sn (itRow x.subst)) := by
    refine ⟨(HD5.out.1.next HO.out.2.1 HD5.out.1.sz).grown hg (fun k hk => ?_), owned_grown (owned_below HD5.out.2 HO.out.2.1) HO.out.1 (by decide) hg, ho⟩
    have := (owned_from' HO.out.1 k hk).1
    have := HZ3.out
    omega
  clear ho hg HO c2 HD5
  have d2 : w6.cell? ⟨w.heap.size + 2, 2, none⟩ = some (.slice sa sn sc) := blk HD6.out.1.out rfl
  have d10 : w6.cell? ⟨w.heap.size + 2, 10, none⟩ = some (.slice ta tn tc) := blk HD6.out.1.out rfl
  have ff : ∀ i, w6.frozen? ⟨w.heap.size + 2, i, none⟩ = false := fun i => frozen_of_row w6 _ i _ _ HD6.out.1.out
  go_upto_region 5 with (fail)
  obtain ⟨w7, hw7⟩ : ∃ w7, w7 = (w6.setCell ⟨w.heap.size + 2, 2, none⟩ (.slice sa2 sn sc2)).setCell ⟨w.heap.size + 2, 10, none⟩ (.slice none 0 0) := ⟨_, rfl⟩
  rw [← hw7]
  have HQ : Hid (∃ (tt : Option Addr) (tcc : Nat) (sl : List Sr), C6 w #[.int .i64 x.letters, .slice da dn dc, .slice sa sn sc, .int .i64 x.beg, .int .i64 x.fin, .int .i64 x.front, .int .i64 x.back, .bool x.banded, .int .i64 x.lo, .int .i64 x.hi, .slice ta tn tc] #[.int .i64 x.letters, .slice da2 dn dc2, .slice sa2 sn sc2, .int .i64 x.beg, .int .i64 x.fin, .int .i64 x.front, .int .i64 x.back, .bool x.banded, .int .i64 x.lo, .int .i64 x.hi, .slice tt 0 tcc] w7 ∧ w7.ownsRow W3.heap.size 36 4 (.slice da2 dn dc2) dn (dfRow x.defs) ∧ w7.ownsRow W3.heap.size 3 1 (.slice sa2 sn sc2) sn (itRow x.subst) ∧ w7.ownsRow W3.heap.size 39 2 (.slice tt 0 tcc) 0 (srRow sl) ∧ Own3 w7 W3.heap.size sl (x.states.take 0) ∧ Dj sl) := by
    have hg : w6.grownBy w7 (some (w.heap.size + 2)) := by rw [hw7]; exact grown_trans (grown_set _ _ _ _) (grown_set _ _ _ _)
    refine ⟨none, 0, [], ?_, own_kind HD6.out.2.1 HD6.out.1.out (by decide) hg, own_kind HD6.out.2.2 HD6.out.1.out (by decide) hg, none_row _ _ _ _, ⟨rfl, fun i r s hi => by simp at hi⟩, fun i j r r' a hij hi => by simp at hi⟩
    rw [hw7]
    exact (HD6.out.1.put 2 _).put 10 _
  clear hw7 HD6 d2 d10 ff
  go_wp2
  go_loopg [4] tn (fun q iv wr => ∃ (i : Nat), i + q = tn ∧ iv = .int .i64 i ∧ Hid (∃ (tt : Option Addr) (tcc : Nat) (sl : List Sr), C6 w #[.int .i64 x.letters, .slice da dn dc, .slice sa sn sc, .int .i64 x.beg, .int .i64 x.fin, .int .i64 x.front, .int .i64 x.back, .bool x.banded, .int .i64 x.lo, .int .i64 x.hi, .slice ta tn tc] #[.int .i64 x.letters, .slice da2 dn dc2, .slice sa2 sn sc2, .int .i64 x.beg, .int .i64 x.fin, .int .i64 x.front, .int .i64 x.back, .bool x.banded, .int .i64 x.lo, .int .i64 x.hi, .slice tt i tcc] wr ∧ wr.ownsRow W3.heap.size 36 4 (.slice da2 dn dc2) dn (dfRow x.defs) ∧ wr.ownsRow W3.heap.size 3 1 (.slice sa2 sn sc2) sn (itRow x.subst) ∧ wr.ownsRow W3.heap.size 39 2 (.slice tt i tcc) i (srRow sl) ∧ Own3 wr W3.heap.size sl (x.states.take i) ∧ Dj sl))
  case atStart => exact ⟨0, by omega, rfl, HQ.out⟩
  case round =>
    clear HQ
    obtain ⟨i, hiq, rfl, HQ⟩ := hrel
    by_cases hlt : i < tn
    · obtain ⟨tt, tcc, sl, hc6, hdf, hsu, hst, hrw, hdj⟩ := HQ.out
      have HQ1 : Hid (C6 w #[.int .i64 x.letters, .slice da dn dc, .slice sa sn sc, .int .i64 x.beg, .int .i64 x.fin, .int .i64 x.front, .int .i64 x.back, .bool x.banded, .int .i64 x.lo, .int .i64 x.hi, .slice ta tn tc] #[.int .i64 x.letters, .slice da2 dn dc2, .slice sa2 sn sc2, .int .i64 x.beg, .int .i64 x.fin, .int .i64 x.front, .int .i64 x.back, .bool x.banded, .int .i64 x.lo, .int .i64 x.hi, .slice tt i tcc] wr ∧ wr.ownsRow W3.heap.size 36 4 (.slice da2 dn dc2) dn (dfRow x.defs) ∧ wr.ownsRow W3.heap.size 3 1 (.slice sa2 sn sc2) sn (itRow x.subst) ∧ wr.ownsRow W3.heap.size 39 2 (.slice tt i tcc) i (srRow sl) ∧ Own3 wr W3.heap.size sl (x.states.take i) ∧ Dj sl) := ⟨hc6, hdf, hsu, hst, hrw, hdj⟩
      obtain ⟨ss, hss⟩ : ∃ ss, x.states[i]? = some ss := ⟨x.states[i]'(by rw [HL.out.2.2]; exact hlt), List.getElem?_eq_getElem _⟩
      obtain ⟨tg, t0, hta, hcs⟩ := HR.out.1.states.cells (by omega)
      obtain ⟨ea, en, ec, k1, k2, k3⟩ := hcs i ss hss
      have hen : en ≤ 8796093022208 := by rw [← k3.length]; exact HR.out.2.edges ss (List.mem_of_getElem? hss)
      have HE : Hid (PcsAt w ea en ss.2 ∧ x.states[i]? = some ss ∧ W3.heap.size ≤ wr.heap.size) := ⟨k3, hss, by have := hc6.sz; have := HZ3.out; omega⟩
      have HTA : Hid (ta = some ⟨tg, t0, none⟩) := hta
      have HS : Hid (∀ W, Below W3.heap.size wr W → W.cell? ⟨w.heap.size + 2, 10, none⟩ = some (.slice tt i tcc) ∧ W.cell? ⟨w.heap.size, 10, none⟩ = some (.slice (some ⟨tg, t0, none⟩) tn tc) ∧ W.cell? ⟨tg, t0 + i * 2, none⟩ = some (.int .i64 ss.1) ∧ W.cell? ⟨tg, t0 + i * 2 + 1, none⟩ = some (.slice ea en ec)) := fun W hW => by
        have h6 := hc6.next hW (by rw [HZ3.out]; exact Nat.le_refl _)
        refine ⟨blk h6.out rfl, by rw [← hta]; exact blk h6.d5.box rfl, ?_, ?_⟩
        · rw [h6.d5.low.cell (World.block_lt_of_cell? w _ k1)]; exact k1
        · rw [h6.d5.low.cell (World.block_lt_of_cell? w _ k2)]; exact k2
      clear hc6 hdf hsu hst hrw hdj hss hcs k1 k2 k3 hta HQ
      have b10 := (HS.out wr (Below.refl _ _)).2.1
      have hk0 : decide ((i : Int) < (tn : Int)) = true := by simp; omega
      have hkd : (i : Int) < (tn : Int) := by omega
      go_wp2_with fail
      have hs0 := HS.out wr.drew (Below.refl _ _).drew
      refine wp_region_Y (fun j => [20].contains j) (fun W : World => W.cell? ⟨w.heap.size + 2, 10, none⟩ = some (.slice tt i tcc) ∧ W.cell? ⟨w.heap.size, 10, none⟩ = some (.slice (some ⟨tg, t0, none⟩) tn tc) ∧ W.cell? ⟨tg, t0 + i * 2, none⟩ = some (.int .i64 ss.1) ∧ W.cell? ⟨tg, t0 + i * 2 + 1, none⟩ = some (.slice ea en ec)) (by kernel_rfl) ?_
      refine wpAnyY_takeD (i := 0) 24 (v := .pointer (some ⟨w.heap.size + 2, 10, none⟩)) rfl rfl (by kernel_rfl) (by kernel_rfl) (late_of (by kernel_rfl)) (by kernel_rfl) (by kernel_rfl) (fun _ _ _ h => h) hs0 (Or.inl ⟨by rfl, by (intro W hW; obtain ⟨s0, s1, s2, s3⟩ := hW; go_simp)⟩) ?_
      simp only [Act.put, List.setIfInBounds_toArray, List.set_cons_succ, List.set_cons_zero]
      refine wpAnyY_takeD (i := 1) 25 (v := .slice tt i tcc) rfl rfl (by kernel_rfl) (by kernel_rfl) (late_of (by kernel_rfl)) (by kernel_rfl) (by kernel_rfl) (fun _ _ _ h => h) hs0 (Or.inl ⟨by rfl, by (intro W hW; obtain ⟨s0, s1, s2, s3⟩ := hW; go_simp)⟩) ?_
      simp only [Act.put, List.setIfInBounds_toArray, List.set_cons_succ, List.set_cons_zero]
      refine wpAnyY_takeD (i := 2) 26 (v := .pointer (some ⟨w.heap.size, 10, none⟩)) rfl rfl (by kernel_rfl) (by kernel_rfl) (late_of (by kernel_rfl)) (by kernel_rfl) (by kernel_rfl) (fun _ _ _ h => h) hs0 (Or.inl ⟨by rfl, by (intro W hW; obtain ⟨s0, s1, s2, s3⟩ := hW; go_simp)⟩) ?_
      simp only [Act.put, List.setIfInBounds_toArray, List.set_cons_succ, List.set_cons_zero]
      refine wpAnyY_takeD (i := 3) 27 (v := .slice (some ⟨tg, t0, none⟩) tn tc) rfl rfl (by kernel_rfl) (by kernel_rfl) (late_of (by kernel_rfl)) (by kernel_rfl) (by kernel_rfl) (fun _ _ _ h => h) hs0 (Or.inl ⟨by rfl, by (intro W hW; obtain ⟨s0, s1, s2, s3⟩ := hW; go_simp)⟩) ?_
      simp only [Act.put, List.setIfInBounds_toArray, List.set_cons_succ, List.set_cons_zero]
      refine wpAnyY_takeD (i := 4) 28 (v := .int .i64 (i : Int)) rfl rfl (by kernel_rfl) (by kernel_rfl) (late_of (by kernel_rfl)) (by kernel_rfl) (by kernel_rfl) (fun _ _ _ h => h) hs0 (Or.inl ⟨by rfl, by (intro W hW; obtain ⟨s0, s1, s2, s3⟩ := hW; go_simp)⟩) ?_
      simp only [Act.put, List.setIfInBounds_toArray, List.set_cons_succ, List.set_cons_zero]
      refine wpAnyY_takeD (i := 5) 29 (v := .pointer (some ⟨tg, t0 + i * 2, none⟩)) rfl rfl (by kernel_rfl) (by kernel_rfl) (late_of (by kernel_rfl)) (by kernel_rfl) (by kernel_rfl) (fun _ _ _ h => h) hs0 (Or.inl ⟨by rfl, by (intro W hW; obtain ⟨s0, s1, s2, s3⟩ := hW; go_simp)⟩) ?_
      simp only [Act.put, List.setIfInBounds_toArray, List.set_cons_succ, List.set_cons_zero]
      refine wpAnyY_takeD (i := 6) 30 (v := .pointer (some ⟨tg, t0 + i * 2, none⟩)) rfl rfl (by kernel_rfl) (by kernel_rfl) (late_of (by kernel_rfl)) (by kernel_rfl) (by kernel_rfl) (fun _ _ _ h => h) hs0 (Or.inl ⟨by rfl, by (intro W hW; obtain ⟨s0, s1, s2, s3⟩ := hW; go_simp)⟩) ?_
      simp only [Act.put, List.setIfInBounds_toArray, List.set_cons_succ, List.set_cons_zero]
      refine wpAnyY_takeD (i := 7) 31 (v := .int .i64 ss.1) rfl rfl (by kernel_rfl) (by kernel_rfl) (late_of (by kernel_rfl)) (by kernel_rfl) (by kernel_rfl) (fun _ _ _ h => h) hs0 (Or.inl ⟨by rfl, by (intro W hW; obtain ⟨s0, s1, s2, s3⟩ := hW; go_simp)⟩) ?_
      simp only [Act.put, List.setIfInBounds_toArray, List.set_cons_succ, List.set_cons_zero]
      refine wpAnyY_takeD (i := 9) 33 (v := .pointer (some ⟨w.heap.size, 10, none⟩)) rfl rfl (by kernel_rfl) (by kernel_rfl) (late_of (by kernel_rfl)) (by kernel_rfl) (by kernel_rfl) (fun _ _ _ h => h) hs0 (Or.inl ⟨by rfl, by (intro W hW; obtain ⟨s0, s1, s2, s3⟩ := hW; go_simp)⟩) ?_
      simp only [Act.put, List.setIfInBounds_toArray, List.set_cons_succ, List.set_cons_zero]
      refine wpAnyY_takeD (i := 10) 34 (v := .slice (some ⟨tg, t0, none⟩) tn tc) rfl rfl (by kernel_rfl) (by kernel_rfl) (late_of (by kernel_rfl)) (by kernel_rfl) (by kernel_rfl) (fun _ _ _ h => h) hs0 (Or.inl ⟨by rfl, by (intro W hW; obtain ⟨s0, s1, s2, s3⟩ := hW; go_simp)⟩) ?_
      simp only [Act.put, List.setIfInBounds_toArray, List.set_cons_succ, List.set_cons_zero]
      refine wpAnyY_takeD (i := 11) 35 (v := .int .i64 (i : Int)) rfl rfl (by kernel_rfl) (by kernel_rfl) (late_of (by kernel_rfl)) (by kernel_rfl) (by kernel_rfl) (fun _ _ _ h => h) hs0 (Or.inl ⟨by rfl, by (intro W hW; obtain ⟨s0, s1, s2, s3⟩ := hW; go_simp)⟩) ?_
      simp only [Act.put, List.setIfInBounds_toArray, List.set_cons_succ, List.set_cons_zero]
      refine wpAnyY_takeD (i := 12) 36 (v := .pointer (some ⟨tg, t0 + i * 2, none⟩)) rfl rfl (by kernel_rfl) (by kernel_rfl) (late_of (by kernel_rfl)) (by kernel_rfl) (by kernel_rfl) (fun _ _ _ h => h) hs0 (Or.inl ⟨by rfl, by (intro W hW; obtain ⟨s0, s1, s2, s3⟩ := hW; go_simp)⟩) ?_
      simp only [Act.put, List.setIfInBounds_toArray, List.set_cons_succ, List.set_cons_zero]
      refine wpAnyY_takeD (i := 13) 37 (v := .pointer (some ⟨tg, t0 + i * 2 + 1, none⟩)) rfl rfl (by kernel_rfl) (by kernel_rfl) (late_of (by kernel_rfl)) (by kernel_rfl) (by kernel_rfl) (fun _ _ _ h => h) hs0 (Or.inl ⟨by rfl, by (intro W hW; obtain ⟨s0, s1, s2, s3⟩ := hW; go_simp)⟩) ?_
      simp only [Act.put, List.setIfInBounds_toArray, List.set_cons_succ, List.set_cons_zero]
      refine wpAnyY_takeD (i := 14) 38 (v := .slice ea en ec) rfl rfl (by kernel_rfl) (by kernel_rfl) (late_of (by kernel_rfl)) (by kernel_rfl) (by kernel_rfl) (fun _ _ _ h => h) hs0 (Or.inl ⟨by rfl, by (intro W hW; obtain ⟨s0, s1, s2, s3⟩ := hW; go_simp)⟩) ?_
      simp only [Act.put, List.setIfInBounds_toArray, List.set_cons_succ, List.set_cons_zero]
      refine wpAnyY_one (i := 8) rfl (by kernel_rfl) (fun Kc hKc => ?_)
      go_simp
      refine hKc.out _ _ (fun _ _ => HS.out _ (((Below.refl _ _).alloc HE.out.2.2 _).drew)) ?_
      clear hKc Kc
      have HO : Hid ((wr.alloc (.cells #[] 49)).drew.ownsRow wr.heap.size 49 2 (.slice (some ⟨wr.heap.size, 0, none⟩) 0 0) 0 [] ∧ Below wr.heap.size wr (wr.alloc (.cells #[] 49)).drew ∧ SrcAt (wr.alloc (.cells #[] 49)).drew ea en 2 (pcRow ss.2)) := by
        have hb := ((Below.refl wr.heap.size wr).alloc (Nat.le_refl _) (.cells #[] 49)).drew
        exact ⟨owned_heap (empty_row wr 49 2 wr.heap.size (Nat.le_refl _) _ rfl) rfl, hb, src_pcs (HE.out.1.below (HQ1.out.1.d5.low.trans (hb.mono HQ1.out.1.d5.low.size)))⟩
      refine wpAnyY_one (i := 15) rfl (by kernel_rfl) (fun Kc hKc => ?_)
      refine step_append_opt rfl (.tmp 32) (.tmp 38) 37 rfl wr.heap.size 49 i49 _ 2 16 Try.underlying37 hi49 hz490 hz491 hz492 rfl (by decide) (.slice (some ⟨wr.heap.size, 0, none⟩) 0 0) 0 [] (by simp [Act.eval]) HO.out.1 ea en ec (pcRow ss.2) (by simp [Act.eval]) HO.out.2.2 (by unfold maxLen; omega) (by omega) HO.out.2.1.size ?_
      intro v' w10 ho hg
      obtain ⟨ea2, ec2, rfl⟩ := owned_shape ho
      have HX : Hid (Below wr.heap.size wr w10 ∧ w10.ownsRow wr.heap.size 49 2 (.slice ea2 en ec2) en (pcRow ss.2)) := by
        refine ⟨HO.out.2.1.grown hg HO.out.2.1.size (fun k hk => (owned_from' HO.out.1 k hk).1), by simpa using ho⟩
      clear ho hg HO
      rw [Nat.zero_add]
      refine hKc.out _ _ (fun _ _ => HS.out _ (HX.out.1.mono HE.out.2.2)) ?_
      clear hKc Kc
      simp only [Act.put]
      refine wpAnyY_one (i := 16) rfl (by kernel_rfl) (fun Kc hKc => ?_)
      go_simp
      refine hKc.out _ _ (fun _ h => h) ?_
      clear hKc Kc
      refine wpAnyY_one (i := 17) rfl (by kernel_rfl) (fun Kc hKc => ?_)
      go_simp
      refine hKc.out _ _ (fun _ _ => HS.out _ ((HX.out.1.mono HE.out.2.2).alloc (Nat.le_trans HE.out.2.2 HX.out.1.size) _)) ?_
      clear hKc Kc
      have HY : Hid (Below wr.heap.size wr (w10.alloc (.cells #[.int .i64 ss.1, .slice ea2 en ec2] 39)) ∧ (w10.alloc (.cells #[.int .i64 ss.1, .slice ea2 en ec2] 39)).ownsRow wr.heap.size 49 2 (.slice ea2 en ec2) en (pcRow ss.2) ∧ (w10.alloc (.cells #[.int .i64 ss.1, .slice ea2 en ec2] 39)).ownsRow W3.heap.size 39 2 (.slice tt i tcc) i (srRow sl)) := by
        have hb := (Below.refl w10.heap.size w10).alloc (Nat.le_refl _) (.cells #[.int .i64 ss.1, .slice ea2 en ec2] 39)
        have hb2 := HX.out.1.trans (hb.mono HX.out.1.size)
        exact ⟨hb2, owned_below HX.out.2 hb, owned_below HQ1.out.2.2.2.1 hb2⟩
      refine wpAnyY_one (i := 18) rfl (by kernel_rfl) (fun Kc hKc => ?_)
      refine step_append_opt rfl (.tmp 25) (.tmp 41) 24 rfl W3.heap.size 39 i39 _ 2 32 Try.underlying24 hi39 hz390 hz391 hz392 rfl (by decide) (.slice tt i tcc) i (srRow sl) (by simp [Act.eval]) HY.out.2.2 (some ⟨w10.heap.size, 0, none⟩) 1 1 (srCells (ss.1, ea2, en, ec2)) (by simp [Act.eval]) (sr_new' _ _ _ _ _) (by unfold maxLen; omega) (by omega) (Nat.le_trans HE.out.2.2 HY.out.1.size) ?_
      intro v' w12 ho hg
      obtain ⟨tt2, tcc2, rfl⟩ := owned_shape ho
      have HN : Hid (Below W3.heap.size wr w12 ∧ C6 w #[.int .i64 x.letters, .slice da dn dc, .slice sa sn sc, .int .i64 x.beg, .int .i64 x.fin, .int .i64 x.front, .int .i64 x.back, .bool x.banded, .int .i64 x.lo, .int .i64 x.hi, .slice ta tn tc] #[.int .i64 x.letters, .slice da2 dn dc2, .slice sa2 sn sc2, .int .i64 x.beg, .int .i64 x.fin, .int .i64 x.front, .int .i64 x.back, .bool x.banded, .int .i64 x.lo, .int .i64 x.hi, .slice tt i tcc] w12 ∧ w12.ownsRow W3.heap.size 36 4 (.slice da2 dn dc2) dn (dfRow x.defs) ∧ w12.ownsRow W3.heap.size 3 1 (.slice sa2 sn sc2) sn (itRow x.subst) ∧ w12.ownsRow W3.heap.size 39 2 (.slice tt2 (i + 1) tcc2) (i + 1) (srRow (sl ++ [(ss.1, ea2, en, ec2)])) ∧ Own3 w12 W3.heap.size (sl ++ [(ss.1, ea2, en, ec2)]) (x.states.take (i + 1)) ∧ Dj (sl ++ [(ss.1, ea2, en, ec2)])) := by
        have hB : Below W3.heap.size wr w12 := (HY.out.1.mono HE.out.2.2).grown hg (Nat.le_trans HE.out.2.2 HY.out.1.size) (fun k hk => (owned_from' HY.out.2.2 k hk).1)
        refine ⟨hB, HQ1.out.1.next hB (by rw [HZ3.out]; exact Nat.le_refl _), owned_grown (owned_below HQ1.out.2.1 HY.out.1) HY.out.2.2 (by decide) hg, owned_grown (owned_below HQ1.out.2.2.1 HY.out.1) HY.out.2.2 (by decide) hg, ?_, ?_, ?_⟩
        · rw [show srRow (sl ++ [(ss.1, ea2, en, ec2)]) = srRow sl ++ srCells (ss.1, ea2, en, ec2) by simp [srRow]]; exact ho
        · have h3 : Own3 w12 W3.heap.size sl (x.states.take i) := (HQ1.out.2.2.2.2.1.below HY.out.1).grown HY.out.2.2 hg
          have h4 := h3.snoc (k := ss.1) (es := ss.2) (a := ea2) (n := en) (c := ec2) HE.out.1.length.symm (owned_base (owned_grown HY.out.2.1 HY.out.2.2 (by decide) hg) HE.out.2.2)
          obtain ⟨q1, q2⟩ := List.getElem?_eq_some_iff.1 HE.out.2.1
          rw [List.take_succ_eq_append_getElem q1, q2]
          exact h4
        · refine HQ1.out.2.2.2.2.2.snoc (fun j r' a hj ha hb => ?_)
          have hjl : j < (x.states.take i).length := by rw [← HQ1.out.2.2.2.2.1.1]; exact (List.getElem?_eq_some_iff.1 hj).1
          have hd := (HQ1.out.2.2.2.2.1.2 j r' _ hj (List.getElem?_eq_getElem hjl)).2.2
          rcases hd.2 with ⟨hv, _⟩ | ⟨g1, cap1, cur1, hv1, _, hg1, _⟩
          · rw [ha] at hv; cases hv
          · rw [ha] at hv1; cases hv1
            rcases HX.out.2.2 with ⟨hv, _⟩ | ⟨g2, cap2, cur2, hv2, hb2, _⟩
            · cases hv; cases hb
            · cases hv2; cases hb
              have := lt_block hg1
              omega
      clear ho hg HX HY
      refine hKc.out _ _ (fun _ _ => HS.out _ HN.out.1) ?_
      clear hKc Kc
      simp only [Act.put]
      have e10 := (HS.out w12 HN.out.1).1
      have ff : ∀ i, w12.frozen? ⟨w.heap.size + 2, i, none⟩ = false := fun i => frozen_of_row w12 _ i _ _ HN.out.2.1.out
      refine wpAnyY_one (i := 19) rfl (by kernel_rfl) (fun Kc hKc => ?_)
      go_simp
      refine hKc.out _ _ (fun _ h => h) ?_
      clear hKc Kc
      refine wpAnyY_one (i := 20) rfl (by kernel_rfl) (fun Kc hKc => ?_)
      go_simp
      refine hKc.out _ _ (fun h => absurd h (by decide)) ?_
      clear hKc Kc
      refine wpAnyY_done (by kernel_rfl) ?_ _
      have HM : Hid (∃ (tt : Option Addr) (tcc : Nat) (sl : List Sr), C6 w #[.int .i64 x.letters, .slice da dn dc, .slice sa sn sc, .int .i64 x.beg, .int .i64 x.fin, .int .i64 x.front, .int .i64 x.back, .bool x.banded, .int .i64 x.lo, .int .i64 x.hi, .slice ta tn tc] #[.int .i64 x.letters, .slice da2 dn dc2, .slice sa2 sn sc2, .int .i64 x.beg, .int .i64 x.fin, .int .i64 x.front, .int .i64 x.back, .bool x.banded, .int .i64 x.lo, .int .i64 x.hi, .slice tt (i + 1) tcc] (w12.setCell ⟨w.heap.size + 2, 10, none⟩ (.slice tt2 (i + 1) tcc2)) ∧ (w12.setCell ⟨w.heap.size + 2, 10, none⟩ (.slice tt2 (i + 1) tcc2)).ownsRow W3.heap.size 36 4 (.slice da2 dn dc2) dn (dfRow x.defs) ∧ (w12.setCell ⟨w.heap.size + 2, 10, none⟩ (.slice tt2 (i + 1) tcc2)).ownsRow W3.heap.size 3 1 (.slice sa2 sn sc2) sn (itRow x.subst) ∧ (w12.setCell ⟨w.heap.size + 2, 10, none⟩ (.slice tt2 (i + 1) tcc2)).ownsRow W3.heap.size 39 2 (.slice tt (i + 1) tcc) (i + 1) (srRow sl) ∧ Own3 (w12.setCell ⟨w.heap.size + 2, 10, none⟩ (.slice tt2 (i + 1) tcc2)) W3.heap.size sl (x.states.take (i + 1)) ∧ Dj sl) := by
        obtain ⟨_, h6, h1, h2, h3, h4, h5⟩ := HN.out
        have hg := grown_set w12 (w.heap.size + 2) 10 (.slice tt2 (i + 1) tcc2)
        exact ⟨tt2, tcc2, _, h6.put 10 _, own_kind h1 h6.out (by decide) hg, own_kind h2 h6.out (by decide) hg, own_kind h3 h6.out (by decide) hg, h4.kind h6.out (by decide) hg, h5⟩
      clear HN e10 ff hs0 b10 HS HQ1
      go_wp2
      go_roundg (gk - 1)
      case measure => omega
      case rel => exact ⟨i + 1, by omega, by go_num, HM.out⟩
    · have hit : i = tn := by omega
      have hk0 : decide ((i : Int) < (tn : Int)) = false := by simp; omega
      rw [hit] at HQ hk0 ⊢
      clear hit
      obtain ⟨tt, tcc, sl, hc6, hdf, hsu, hst, hrw, hdj⟩ := HQ.out
      have HQ1 : Hid (C6 w #[.int .i64 x.letters, .slice da dn dc, .slice sa sn sc, .int .i64 x.beg, .int .i64 x.fin, .int .i64 x.front, .int .i64 x.back, .bool x.banded, .int .i64 x.lo, .int .i64 x.hi, .slice ta tn tc] #[.int .i64 x.letters, .slice da2 dn dc2, .slice sa2 sn sc2, .int .i64 x.beg, .int .i64 x.fin, .int .i64 x.front, .int .i64 x.back, .bool x.banded, .int .i64 x.lo, .int .i64 x.hi, .slice tt tn tcc] wr ∧ wr.ownsRow W3.heap.size 36 4 (.slice da2 dn dc2) dn (dfRow x.defs) ∧ wr.ownsRow W3.heap.size 3 1 (.slice sa2 sn sc2) sn (itRow x.subst) ∧ wr.ownsRow W3.heap.size 39 2 (.slice tt tn tcc) tn (srRow sl) ∧ Own3 wr W3.heap.size sl (x.states.take tn) ∧ Dj sl) := ⟨hc6, hdf, hsu, hst, hrw, hdj⟩
      clear hc6 hdf hsu hst hrw hdj HQ
      have b10 : wr.cell? ⟨w.heap.size, 10, none⟩ = some (.slice ta tn tc) := blk HQ1.out.1.d5.box rfl
      have o0 : wr.cell? ⟨w.heap.size + 2, 0, none⟩ = some (.int .i64 x.letters) := blk HQ1.out.1.out rfl
      have o1 : wr.cell? ⟨w.heap.size + 2, 1, none⟩ = some (.slice da2 dn dc2) := blk HQ1.out.1.out rfl
      have o2 : wr.cell? ⟨w.heap.size + 2, 2, none⟩ = some (.slice sa2 sn sc2) := blk HQ1.out.1.out rfl
      have o3 : wr.cell? ⟨w.heap.size + 2, 3, none⟩ = some (.int .i64 x.beg) := blk HQ1.out.1.out rfl
      have o4 : wr.cell? ⟨w.heap.size + 2, 4, none⟩ = some (.int .i64 x.fin) := blk HQ1.out.1.out rfl
      have o5 : wr.cell? ⟨w.heap.size + 2, 5, none⟩ = some (.int .i64 x.front) := blk HQ1.out.1.out rfl
      have o6 : wr.cell? ⟨w.heap.size + 2, 6, none⟩ = some (.int .i64 x.back) := blk HQ1.out.1.out rfl
      have o7 : wr.cell? ⟨w.heap.size + 2, 7, none⟩ = some (.bool x.banded) := blk HQ1.out.1.out rfl
      have o8 : wr.cell? ⟨w.heap.size + 2, 8, none⟩ = some (.int .i64 x.lo) := blk HQ1.out.1.out rfl
      have o9 : wr.cell? ⟨w.heap.size + 2, 9, none⟩ = some (.int .i64 x.hi) := blk HQ1.out.1.out rfl
      have o10 : wr.cell? ⟨w.heap.size + 2, 10, none⟩ = some (.slice tt tn tcc) := blk HQ1.out.1.out rfl
      have r0 : wr.cell? ⟨w.heap.size + 1, 0, none⟩ = some (.int .i64 0) := blk HQ1.out.1.d5.res rfl
      have r1 : wr.cell? ⟨w.heap.size + 1, 1, none⟩ = some (.slice none 0 0) := blk HQ1.out.1.d5.res rfl
      have r2 : wr.cell? ⟨w.heap.size + 1, 2, none⟩ = some (.slice none 0 0) := blk HQ1.out.1.d5.res rfl
      have r3 : wr.cell? ⟨w.heap.size + 1, 3, none⟩ = some (.int .i64 0) := blk HQ1.out.1.d5.res rfl
      have r4 : wr.cell? ⟨w.heap.size + 1, 4, none⟩ = some (.int .i64 0) := blk HQ1.out.1.d5.res rfl
      have r5 : wr.cell? ⟨w.heap.size + 1, 5, none⟩ = some (.int .i64 0) := blk HQ1.out.1.d5.res rfl
      have r6 : wr.cell? ⟨w.heap.size + 1, 6, none⟩ = some (.int .i64 0) := blk HQ1.out.1.d5.res rfl
      have r7 : wr.cell? ⟨w.heap.size + 1, 7, none⟩ = some (.bool false) := blk HQ1.out.1.d5.res rfl
      have r8 : wr.cell? ⟨w.heap.size + 1, 8, none⟩ = some (.int .i64 0) := blk HQ1.out.1.d5.res rfl
      have r9 : wr.cell? ⟨w.heap.size + 1, 9, none⟩ = some (.int .i64 0) := blk HQ1.out.1.d5.res rfl
      have r10 : wr.cell? ⟨w.heap.size + 1, 10, none⟩ = some (.slice none 0 0) := blk HQ1.out.1.d5.res rfl
      have ff : ∀ i, wr.frozen? ⟨w.heap.size + 1, i, none⟩ = false := fun i => frozen_of_row wr _ i _ _ HQ1.out.1.d5.res
      go_wp2
      refine bodyPost_ret (v := .agg #[.int .i64 x.letters, .slice da2 dn dc2, .slice sa2 sn sc2, .int .i64 x.beg, .int .i64 x.fin, .int .i64 x.front, .int .i64 x.back, .bool x.banded, .int .i64 x.lo, .int .i64 x.hi, .slice tt tn tcc]) ?_ rfl ?_
      · simp only [results, hres]
        go_simp
      · refine ⟨da2, dc2, sa2, sc2, tt, tcc, sl, by rw [HL.out.1, HL.out.2.1, HL.out.2.2], below_r HQ1.out.1.d5.low _ _ _ _ _ _ _ _ _ _ _, ?_⟩
        have hg : wr.grownBy _ (some (w.heap.size + 1)) := grown_r (w := w) (W := wr) (.int .i64 x.letters) (.slice da2 dn dc2) (.slice sa2 sn sc2) (.int .i64 x.beg) (.int .i64 x.fin) (.int .i64 x.front) (.int .i64 x.back) (.bool x.banded) (.int .i64 x.lo) (.int .i64 x.hi) (.slice tt tn tcc)
        have hz : w.heap.size ≤ W3.heap.size := by have := HZ3.out; omega
        obtain ⟨h6, h1, h2, h3, h4, h5⟩ := HQ1.out
        have hrs := h6.d5.res
        rw [List.take_of_length_le (by rw [HL.out.2.2]; exact Nat.le_refl _)] at h4
        have h4' := h4.kind hrs (by decide) hg
        refine ⟨?_, ?_, ?_, ⟨h4'.1, fun i r s hi hs => ⟨(h4'.2 i r s hi hs).1, (h4'.2 i r s hi hs).2.1, owned_base (h4'.2 i r s hi hs).2.2 hz⟩⟩, h5⟩
        · rw [HL.out.1]; exact owned_base (own_kind h1 hrs (by decide) hg) hz
        · rw [HL.out.2.1]; exact owned_base (own_kind h2 hrs (by decide) hg) hz
        · rw [HL.out.2.2]; exact owned_base (own_kind h3 hrs (by decide) hg) hz
set_option maxRecDepth 20000 in
set_option maxHeartbeats 8000000 in
theorem copyR_calls (x : Rc) (da : Option Addr) (dn dc : Nat) (sa : Option Addr) (sn sc : Nat) (ta : Option Addr) (tn tc : Nat) (w : World) (h : RcAt w x da dn sa sn ta tn) (hb : RcB x) :
    Calls Try.prog 27 #[.agg (rcCells x da dn dc sa sn sc ta tn tc)] w fun e w' => ∃ da2 dc2 sa2 sc2 ta2 tc2 sl, e = .returned (.agg (rcCells x da2 x.defs.length dc2 sa2 x.subst.length sc2 ta2 x.states.length tc2)) ∧ Below w.heap.size w w' ∧ CpO w' w.heap.size x da2 dc2 sa2 sc2 ta2 tc2 sl := by
  have hres : Try.f27.results = #[.cell 2 26] := by kernel_rfl
  have HR : Hid (RcAt w x da dn sa sn ta tn ∧ RcB x) := ⟨h, hb⟩
  have hdn : dn ≤ 4398046511104 := by rw [← h.defs.length]; exact hb.defs
  have hsn : sn ≤ 17592186044416 := by rw [← h.subst.length]; exact hb.subst
  have htn : tn ≤ 4398046511104 := by rw [← h.states.length]; exact hb.states
  have HL : Hid (x.defs.length = dn ∧ x.subst.length = sn ∧ x.states.length = tn) := ⟨h.defs.length, h.subst.length, h.states.length⟩
  have HC0 : Hid (C6 w (rcCells x da dn dc sa sn sc ta tn tc) (rcCells x da dn dc sa sn sc ta tn tc) (((w.alloc (.cells (rcCells x da dn dc sa sn sc ta tn tc) 26)).alloc (.cells #[.int .i64 0, .slice none 0 0, .slice none 0 0, .int .i64 0, .int .i64 0, .int .i64 0, .int .i64 0, .bool false, .int .i64 0, .int .i64 0, .slice none 0 0] 26)).alloc (.cells (rcCells x da dn dc sa sn sc ta tn tc) 26))) := by
    have hd := D5.start w (rcCells x da dn dc sa sn sc ta tn tc)
    refine ⟨hd.next ((Below.refl _ _).alloc (Nat.le_refl _) _) (by simp), ?_⟩
    have := heap_alloc_new ((w.alloc (.cells (rcCells x da dn dc sa sn sc ta tn tc) 26)).alloc (.cells #[.int .i64 0, .slice none 0 0, .slice none 0 0, .int .i64 0, .int .i64 0, .int .i64 0, .int .i64 0, .bool false, .int .i64 0, .int .i64 0, .slice none 0 0] 26)) (.cells (rcCells x da dn dc sa sn sc ta tn tc) 26)
    simpa using this
  obtain ⟨i36, hi36, hz360, hz361, hz362⟩ := info_parts info36
  obtain ⟨i3, hi3, hz30, hz31, hz32⟩ := info_parts info3
  obtain ⟨i39, hi39, hz390, hz391, hz392⟩ := info_parts info52
  obtain ⟨i49, hi49, hz490, hz491, hz492⟩ := info_parts info54
  clear h hb
  unfold rcCells at HC0 ⊢
  go_enter Try.func27, Try.ntmps27
  go_upto_region 2 with (fail)
  obtain ⟨W3, hW3⟩ : ∃ W3, W3 = ((w.alloc (.cells #[.int .i64 x.letters, .slice da dn dc, .slice sa sn sc, .int .i64 x.beg, .int .i64 x.fin, .int .i64 x.front, .int .i64 x.back, .bool x.banded, .int .i64 x.lo, .int .i64 x.hi, .slice ta tn tc] 26)).alloc (.cells #[.int .i64 0, .slice none 0 0, .slice none 0 0, .int .i64 0, .int .i64 0, .int .i64 0, .int .i64 0, .bool false, .int .i64 0, .int .i64 0, .slice none 0 0] 26)).alloc (.cells #[.int .i64 x.letters, .slice da dn dc, .slice sa sn sc, .int .i64 x.beg, .int .i64 x.fin, .int .i64 x.front, .int .i64 x.back, .bool x.banded, .int .i64 x.lo, .int .i64 x.hi, .slice ta tn tc] 26) := ⟨_, rfl⟩
  rw [← hW3] at HC0 ⊢
  have HZ3 : Hid (W3.heap.size = w.heap.size + 3) := by rw [hW3]; simp [Hid]
  clear hW3
  -- the definitions
  have HO : Hid ((W3.alloc (.cells #[] 36)).ownsRow W3.heap.size 36 4 (.slice (some ⟨W3.heap.size, 0, none⟩) 0 0) 0 [] ∧ Below W3.heap.size W3 (W3.alloc (.cells #[] 36)) ∧ SrcAt (W3.alloc (.cells #[] 36)) da dn 4 (dfRow x.defs)) := by
    have hb := (Below.refl W3.heap.size W3).alloc (Nat.le_refl _) (.cells #[] 36)
    exact ⟨empty_row W3 36 4 W3.heap.size (Nat.le_refl _) _ rfl, hb, src_dfs (HR.out.1.defs.below (HC0.out.d5.low.trans (hb.mono HC0.out.d5.low.size)))⟩
  have c1 : ∀ o, (W3.alloc o).cell? ⟨w.heap.size, 1, none⟩ = some (.slice da dn dc) := fun o => Lib.cell?_alloc_some _ (blk HC0.out.d5.box rfl)
  go_wp2_with (at_builtin; refine wpList_append_opt rfl _ _ 22 rfl W3.heap.size 36 i36 _ 4 32 Try.underlying22 hi36 hz360 hz361 hz362 rfl (by decide) (.slice (some ⟨W3.heap.size, 0, none⟩) 0 0) 0 [] rfl HO.out.1 da dn dc (dfRow x.defs) rfl HO.out.2.2 (by unfold maxLen; omega) (by omega) HO.out.2.1.size ?_)
  intro v' w4 ho hg
  obtain ⟨da2, dc2, rfl⟩ := owned_shape ho
  have HD : Hid (C6 w #[.int .i64 x.letters, .slice da dn dc, .slice sa sn sc, .int .i64 x.beg, .int .i64 x.fin, .int .i64 x.front, .int .i64 x.back, .bool x.banded, .int .i64 x.lo, .int .i64 x.hi, .slice ta tn tc] #[.int .i64 x.letters, .slice da dn dc, .slice sa sn sc, .int .i64 x.beg, .int .i64 x.fin, .int .i64 x.front, .int .i64 x.back, .bool x.banded, .int .i64 x.lo, .int .i64 x.hi, .slice ta tn tc] w4 ∧ w4.ownsRow W3.heap.size 36 4 (.slice da2 dn dc2) dn (dfRow x.defs)) := by
    refine ⟨(HC0.out.next HO.out.2.1 HC0.out.sz).grown hg (fun k hk => ?_), ho⟩
    have := (owned_from' HO.out.1 k hk).1
    have := HC0.out.sz
    omega
  clear ho hg HO c1
  have d1 : w4.cell? ⟨w.heap.size + 2, 1, none⟩ = some (.slice da dn dc) := blk HD.out.1.out rfl
  have ff : ∀ i, w4.frozen? ⟨w.heap.size + 2, i, none⟩ = false := fun i => frozen_of_row w4 _ i _ _ HD.out.1.out
  go_upto_region 3 with (fail)
  obtain ⟨w5, hw5⟩ : ∃ w5, w5 = w4.setCell ⟨w.heap.size + 2, 1, none⟩ (.slice da2 dn dc2) := ⟨_, rfl⟩
  rw [← hw5]
  have HD5 : Hid (C6 w #[.int .i64 x.letters, .slice da dn dc, .slice sa sn sc, .int .i64 x.beg, .int .i64 x.fin, .int .i64 x.front, .int .i64 x.back, .bool x.banded, .int .i64 x.lo, .int .i64 x.hi, .slice ta tn tc] #[.int .i64 x.letters, .slice da2 dn dc2, .slice sa sn sc, .int .i64 x.beg, .int .i64 x.fin, .int .i64 x.front, .int .i64 x.back, .bool x.banded, .int .i64 x.lo, .int .i64 x.hi, .slice ta tn tc] w5 ∧ w5.ownsRow W3.heap.size 36 4 (.slice da2 dn dc2) dn (dfRow x.defs)) := by
    rw [hw5]
    exact ⟨HD.out.1.put 1 _, own_kind HD.out.2 HD.out.1.out (by decide) (grown_set _ _ _ _)⟩
  clear hw5 HD d1 ff
  -- the substitutions
  have HO : Hid ((w5.alloc (.cells #[] 3)).ownsRow W3.heap.size 3 1 (.slice (some ⟨w5.heap.size, 0, none⟩) 0 0) 0 [] ∧ Below w5.heap.size w5 (w5.alloc (.cells #[] 3)) ∧ SrcAt (w5.alloc (.cells #[] 3)) sa sn 1 (itRow x.subst)) := by
    have hb := (Below.refl w5.heap.size w5).alloc (Nat.le_refl _) (.cells #[] 3)
    exact ⟨empty_row w5 3 1 W3.heap.size (by have := HD5.out.1.sz; have := HZ3.out; omega) _ rfl, hb, src_ints (HR.out.1.subst.below (HD5.out.1.d5.low.trans (hb.mono HD5.out.1.d5.low.size)))⟩
  have c2 : ∀ o, (w5.alloc o).cell? ⟨w.heap.size, 2, none⟩ = some (.slice sa sn sc) := fun o => Lib.cell?_alloc_some _ (blk HD5.out.1.d5.box rfl)
  go_wp2_with (at_builtin; refine wpList_append_opt rfl _ _ 23 rfl W3.heap.size 3 i3 _ 1 8 Try.underlying23 hi3 hz30 hz31 hz32 rfl (by decide) (.slice (some ⟨w5.heap.size, 0, none⟩) 0 0) 0 [] rfl HO.out.1 sa sn sc (itRow x.subst) rfl HO.out.2.2 (by unfold maxLen; omega) (by omega) (by have := HD5.out.1.sz; have := HZ3.out; have := HO.out.2.1.size; omega) ?_)
  intro v' w6 ho hg
  obtain ⟨sa2, sc2, rfl⟩ := owned_shape ho
  have HD6 : Hid (C6 w #[.int .i64 x.letters, .slice da dn dc, .slice sa sn sc, .int .i64 x.beg, .int .i64 x.fin, .int .i64 x.front, .int .i64 x.back, .bool x.banded, .int .i64 x.lo, .int .i64 x.hi, .slice ta tn tc] #[.int .i64 x.letters, .slice da2 dn dc2, .slice sa sn sc, .int .i64 x.beg, .int .i64 x.fin, .int .i64 x.front, .int .i64 x.back, .bool x.banded, .int .i64 x.lo, .int .i64 x.hi, .slice ta tn tc] w6 ∧ w6.ownsRow W3.heap.size 36 4 (.slice da2 dn dc2) dn (dfRow x.defs) ∧ w6.ownsRow W3.heap.size 3 1 (.slice sa2 sn sc2) sn (itRow x.subst)) := by
    refine ⟨(HD5.out.1.next HO.out.2.1 HD5.out.1.sz).grown hg (fun k hk => ?_), owned_grown (owned_below HD5.out.2 HO.out.2.1) HO.out.1 (by decide) hg, ho⟩
    have := (owned_from' HO.out.1 k hk).1
    have := HZ3.out
    omega
  clear ho hg HO c2 HD5
  have d2 : w6.cell? ⟨w.heap.size + 2, 2, none⟩ = some (.slice sa sn sc) := blk HD6.out.1.out rfl
  have d10 : w6.cell? ⟨w.heap.size + 2, 10, none⟩ = some (.slice ta tn tc) := blk HD6.out.1.out rfl
  have ff : ∀ i, w6.frozen? ⟨w.heap.size + 2, i, none⟩ = false := fun i => frozen_of_row w6 _ i _ _ HD6.out.1.out
  go_upto_region 5 with (fail)
  obtain ⟨w7, hw7⟩ : ∃ w7, w7 = (w6.setCell ⟨w.heap.size + 2, 2, none⟩ (.slice sa2 sn sc2)).setCell ⟨w.heap.size + 2, 10, none⟩ (.slice none 0 0) := ⟨_, rfl⟩
  rw [← hw7]
  have HQ : Hid (∃ (tt : Option Addr) (tcc : Nat) (sl : List Sr), C6 w #[.int .i64 x.letters, .slice da dn dc, .slice sa sn sc, .int .i64 x.beg, .int .i64 x.fin, .int .i64 x.front, .int .i64 x.back, .bool x.banded, .int .i64 x.lo, .int .i64 x.hi, .slice ta tn tc] #[.int .i64 x.letters, .slice da2 dn dc2, .slice sa2 sn sc2, .int .i64 x.beg, .int .i64 x.fin, .int .i64 x.front, .int .i64 x.back, .bool x.banded, .int .i64 x.lo, .int .i64 x.hi, .slice tt 0 tcc] w7 ∧ w7.ownsRow W3.heap.size 36 4 (.slice da2 dn dc2) dn (dfRow x.defs) ∧ w7.ownsRow W3.heap.size 3 1 (.slice sa2 sn sc2) sn (itRow x.subst) ∧ w7.ownsRow W3.heap.size 39 2 (.slice tt 0 tcc) 0 (srRow sl) ∧ Own3 w7 W3.heap.size sl (x.states.take 0) ∧ Dj sl) := by
    have hg : w6.grownBy w7 (some (w.heap.size + 2)) := by rw [hw7]; exact grown_trans (grown_set _ _ _ _) (grown_set _ _ _ _)
    refine ⟨none, 0, [], ?_, own_kind HD6.out.2.1 HD6.out.1.out (by decide) hg, own_kind HD6.out.2.2 HD6.out.1.out (by decide) hg, none_row _ _ _ _, ⟨rfl, fun i r s hi => by simp at hi⟩, fun i j r r' a hij hi => by simp at hi⟩
    rw [hw7]
    exact (HD6.out.1.put 2 _).put 10 _
  clear hw7 HD6 d2 d10 ff
  go_wp2
  go_loopg [4] tn (fun q iv wr => ∃ (i : Nat), i + q = tn ∧ iv = .int .i64 i ∧ Hid (∃ (tt : Option Addr) (tcc : Nat) (sl : List Sr), C6 w #[.int .i64 x.letters, .slice da dn dc, .slice sa sn sc, .int .i64 x.beg, .int .i64 x.fin, .int .i64 x.front, .int .i64 x.back, .bool x.banded, .int .i64 x.lo, .int .i64 x.hi, .slice ta tn tc] #[.int .i64 x.letters, .slice da2 dn dc2, .slice sa2 sn sc2, .int .i64 x.beg, .int .i64 x.fin, .int .i64 x.front, .int .i64 x.back, .bool x.banded, .int .i64 x.lo, .int .i64 x.hi, .slice tt i tcc] wr ∧ wr.ownsRow W3.heap.size 36 4 (.slice da2 dn dc2) dn (dfRow x.defs) ∧ wr.ownsRow W3.heap.size 3 1 (.slice sa2 sn sc2) sn (itRow x.subst) ∧ wr.ownsRow W3.heap.size 39 2 (.slice tt i tcc) i (srRow sl) ∧ Own3 wr W3.heap.size sl (x.states.take i) ∧ Dj sl))
  case atStart => exact ⟨0, by omega, rfl, HQ.out⟩
  case round =>
    clear HQ
    obtain ⟨i, hiq, rfl, HQ⟩ := hrel
    by_cases hlt : i < tn
    · obtain ⟨tt, tcc, sl, hc6, hdf, hsu, hst, hrw, hdj⟩ := HQ.out
      have HQ1 : Hid (C6 w #[.int .i64 x.letters, .slice da dn dc, .slice sa sn sc, .int .i64 x.beg, .int .i64 x.fin, .int .i64 x.front, .int .i64 x.back, .bool x.banded, .int .i64 x.lo, .int .i64 x.hi, .slice ta tn tc] #[.int .i64 x.letters, .slice da2 dn dc2, .slice sa2 sn sc2, .int .i64 x.beg, .int .i64 x.fin, .int .i64 x.front, .int .i64 x.back, .bool x.banded, .int .i64 x.lo, .int .i64 x.hi, .slice tt i tcc] wr ∧ wr.ownsRow W3.heap.size 36 4 (.slice da2 dn dc2) dn (dfRow x.defs) ∧ wr.ownsRow W3.heap.size 3 1 (.slice sa2 sn sc2) sn (itRow x.subst) ∧ wr.ownsRow W3.heap.size 39 2 (.slice tt i tcc) i (srRow sl) ∧ Own3 wr W3.heap.size sl (x.states.take i) ∧ Dj sl) := ⟨hc6, hdf, hsu, hst, hrw, hdj⟩
      obtain ⟨ss, hss⟩ : ∃ ss, x.states[i]? = some ss := ⟨x.states[i]'(by rw [HL.out.2.2]; exact hlt), List.getElem?_eq_getElem _⟩
      obtain ⟨tg, t0, hta, hcs⟩ := HR.out.1.states.cells (by omega)
      obtain ⟨ea, en, ec, k1, k2, k3⟩ := hcs i ss hss
      have hen : en ≤ 8796093022208 := by rw [← k3.length]; exact HR.out.2.edges ss (List.mem_of_getElem? hss)
      have HE : Hid (PcsAt w ea en ss.2 ∧ x.states[i]? = some ss ∧ W3.heap.size ≤ wr.heap.size) := ⟨k3, hss, by have := hc6.sz; have := HZ3.out; omega⟩
      have HTA : Hid (ta = some ⟨tg, t0, none⟩) := hta
      have HS : Hid (∀ W, Below W3.heap.size wr W → W.cell? ⟨w.heap.size + 2, 10, none⟩ = some (.slice tt i tcc) ∧ W.cell? ⟨w.heap.size, 10, none⟩ = some (.slice (some ⟨tg, t0, none⟩) tn tc) ∧ W.cell? ⟨tg, t0 + i * 2, none⟩ = some (.int .i64 ss.1) ∧ W.cell? ⟨tg, t0 + i * 2 + 1, none⟩ = some (.slice ea en ec)) := fun W hW => by
        have h6 := hc6.next hW (by rw [HZ3.out]; exact Nat.le_refl _)
        refine ⟨blk h6.out rfl, by rw [← hta]; exact blk h6.d5.box rfl, ?_, ?_⟩
        · rw [h6.d5.low.cell (World.block_lt_of_cell? w _ k1)]; exact k1
        · rw [h6.d5.low.cell (World.block_lt_of_cell? w _ k2)]; exact k2
      clear hc6 hdf hsu hst hrw hdj hss hcs k1 k2 k3 hta HQ
      have b10 := (HS.out wr (Below.refl _ _)).2.1
      have hk0 : decide ((i : Int) < (tn : Int)) = true := by simp; omega
      have hkd : (i : Int) < (tn : Int) := by omega
      go_wp2_with fail
      have hs0 := HS.out wr.drew (Below.refl _ _).drew
      refine wp_region_Y (fun j => [20].contains j) (fun W : World => W.cell? ⟨w.heap.size + 2, 10, none⟩ = some (.slice tt i tcc) ∧ W.cell? ⟨w.heap.size, 10, none⟩ = some (.slice (some ⟨tg, t0, none⟩) tn tc) ∧ W.cell? ⟨tg, t0 + i * 2, none⟩ = some (.int .i64 ss.1) ∧ W.cell? ⟨tg, t0 + i * 2 + 1, none⟩ = some (.slice ea en ec)) (by kernel_rfl) ?_
      refine wpAnyY_takeD (i := 0) 24 (v := .pointer (some ⟨w.heap.size + 2, 10, none⟩)) rfl rfl (by kernel_rfl) (by kernel_rfl) (late_of (by kernel_rfl)) (by kernel_rfl) (by kernel_rfl) (fun _ _ _ h => h) hs0 (Or.inl ⟨by rfl, by (intro W hW; obtain ⟨s0, s1, s2, s3⟩ := hW; go_simp)⟩) ?_
      simp only [Act.put, List.setIfInBounds_toArray, List.set_cons_succ, List.set_cons_zero]
      refine wpAnyY_takeD (i := 1) 25 (v := .slice tt i tcc) rfl rfl (by kernel_rfl) (by kernel_rfl) (late_of (by kernel_rfl)) (by kernel_rfl) (by kernel_rfl) (fun _ _ _ h => h) hs0 (Or.inl ⟨by rfl, by (intro W hW; obtain ⟨s0, s1, s2, s3⟩ := hW; go_simp)⟩) ?_
      simp only [Act.put, List.setIfInBounds_toArray, List.set_cons_succ, List.set_cons_zero]
      refine wpAnyY_takeD (i := 2) 26 (v := .pointer (some ⟨w.heap.size, 10, none⟩)) rfl rfl (by kernel_rfl) (by kernel_rfl) (late_of (by kernel_rfl)) (by kernel_rfl) (by kernel_rfl) (fun _ _ _ h => h) hs0 (Or.inl ⟨by rfl, by (intro W hW; obtain ⟨s0, s1, s2, s3⟩ := hW; go_simp)⟩) ?_
      simp only [Act.put, List.setIfInBounds_toArray, List.set_cons_succ, List.set_cons_zero]
      refine wpAnyY_takeD (i := 3) 27 (v := .slice (some ⟨tg, t0, none⟩) tn tc) rfl rfl (by kernel_rfl) (by kernel_rfl) (late_of (by kernel_rfl)) (by kernel_rfl) (by kernel_rfl) (fun _ _ _ h => h) hs0 (Or.inl ⟨by rfl, by (intro W hW; obtain ⟨s0, s1, s2, s3⟩ := hW; go_simp)⟩) ?_
      simp only [Act.put, List.setIfInBounds_toArray, List.set_cons_succ, List.set_cons_zero]
      refine wpAnyY_takeD (i := 4) 28 (v := .int .i64 (i : Int)) rfl rfl (by kernel_rfl) (by kernel_rfl) (late_of (by kernel_rfl)) (by kernel_rfl) (by kernel_rfl) (fun _ _ _ h => h) hs0 (Or.inl ⟨by rfl, by (intro W hW; obtain ⟨s0, s1, s2, s3⟩ := hW; go_simp)⟩) ?_
      simp only [Act.put, List.setIfInBounds_toArray, List.set_cons_succ, List.set_cons_zero]
      refine wpAnyY_takeD (i := 5) 29 (v := .pointer (some ⟨tg, t0 + i * 2, none⟩)) rfl rfl (by kernel_rfl) (by kernel_rfl) (late_of (by kernel_rfl)) (by kernel_rfl) (by kernel_rfl) (fun _ _ _ h => h) hs0 (Or.inl ⟨by rfl, by (intro W hW; obtain ⟨s0, s1, s2, s3⟩ := hW; go_simp)⟩) ?_
      simp only [Act.put, List.setIfInBounds_toArray, List.set_cons_succ, List.set_cons_zero]
      refine wpAnyY_takeD (i := 6) 30 (v := .pointer (some ⟨tg, t0 + i * 2, none⟩)) rfl rfl (by kernel_rfl) (by kernel_rfl) (late_of (by kernel_rfl)) (by kernel_rfl) (by kernel_rfl) (fun _ _ _ h => h) hs0 (Or.inl ⟨by rfl, by (intro W hW; obtain ⟨s0, s1, s2, s3⟩ := hW; go_simp)⟩) ?_
      simp only [Act.put, List.setIfInBounds_toArray, List.set_cons_succ, List.set_cons_zero]
      refine wpAnyY_takeD (i := 7) 31 (v := .int .i64 ss.1) rfl rfl (by kernel_rfl) (by kernel_rfl) (late_of (by kernel_rfl)) (by kernel_rfl) (by kernel_rfl) (fun _ _ _ h => h) hs0 (Or.inl ⟨by rfl, by (intro W hW; obtain ⟨s0, s1, s2, s3⟩ := hW; go_simp)⟩) ?_
      simp only [Act.put, List.setIfInBounds_toArray, List.set_cons_succ, List.set_cons_zero]
      refine wpAnyY_takeD (i := 9) 33 (v := .pointer (some ⟨w.heap.size, 10, none⟩)) rfl rfl (by kernel_rfl) (by kernel_rfl) (late_of (by kernel_rfl)) (by kernel_rfl) (by kernel_rfl) (fun _ _ _ h => h) hs0 (Or.inl ⟨by rfl, by (intro W hW; obtain ⟨s0, s1, s2, s3⟩ := hW; go_simp)⟩) ?_
      simp only [Act.put, List.setIfInBounds_toArray, List.set_cons_succ, List.set_cons_zero]
      refine wpAnyY_takeD (i := 10) 34 (v := .slice (some ⟨tg, t0, none⟩) tn tc) rfl rfl (by kernel_rfl) (by kernel_rfl) (late_of (by kernel_rfl)) (by kernel_rfl) (by kernel_rfl) (fun _ _ _ h => h) hs0 (Or.inl ⟨by rfl, by (intro W hW; obtain ⟨s0, s1, s2, s3⟩ := hW; go_simp)⟩) ?_
      simp only [Act.put, List.setIfInBounds_toArray, List.set_cons_succ, List.set_cons_zero]
      refine wpAnyY_takeD (i := 11) 35 (v := .int .i64 (i : Int)) rfl rfl (by kernel_rfl) (by kernel_rfl) (late_of (by kernel_rfl)) (by kernel_rfl) (by kernel_rfl) (fun _ _ _ h => h) hs0 (Or.inl ⟨by rfl, by (intro W hW; obtain ⟨s0, s1, s2, s3⟩ := hW; go_simp)⟩) ?_
      simp only [Act.put, List.setIfInBounds_toArray, List.set_cons_succ, List.set_cons_zero]
      refine wpAnyY_takeD (i := 12) 36 (v := .pointer (some ⟨tg, t0 + i * 2, none⟩)) rfl rfl (by kernel_rfl) (by kernel_rfl) (late_of (by kernel_rfl)) (by kernel_rfl) (by kernel_rfl) (fun _ _ _ h => h) hs0 (Or.inl ⟨by rfl, by (intro W hW; obtain ⟨s0, s1, s2, s3⟩ := hW; go_simp)⟩) ?_
      simp only [Act.put, List.setIfInBounds_toArray, List.set_cons_succ, List.set_cons_zero]
      refine wpAnyY_takeD (i := 13) 37 (v := .pointer (some ⟨tg, t0 + i * 2 + 1, none⟩)) rfl rfl (by kernel_rfl) (by kernel_rfl) (late_of (by kernel_rfl)) (by kernel_rfl) (by kernel_rfl) (fun _ _ _ h => h) hs0 (Or.inl ⟨by rfl, by (intro W hW; obtain ⟨s0, s1, s2, s3⟩ := hW; go_simp)⟩) ?_
      simp only [Act.put, List.setIfInBounds_toArray, List.set_cons_succ, List.set_cons_zero]
      refine wpAnyY_takeD (i := 14) 38 (v := .slice ea en ec) rfl rfl (by kernel_rfl) (by kernel_rfl) (late_of (by kernel_rfl)) (by kernel_rfl) (by kernel_rfl) (fun _ _ _ h => h) hs0 (Or.inl ⟨by rfl, by (intro W hW; obtain ⟨s0, s1, s2, s3⟩ := hW; go_simp)⟩) ?_
      simp only [Act.put, List.setIfInBounds_toArray, List.set_cons_succ, List.set_cons_zero]
      refine wpAnyY_one (i := 8) rfl (by kernel_rfl) (fun Kc hKc => ?_)
      go_simp
      refine hKc.out _ _ (fun _ _ => HS.out _ (((Below.refl _ _).alloc HE.out.2.2 _).drew)) ?_
      clear hKc Kc
      have HO : Hid ((wr.alloc (.cells #[] 49)).drew.ownsRow wr.heap.size 49 2 (.slice (some ⟨wr.heap.size, 0, none⟩) 0 0) 0 [] ∧ Below wr.heap.size wr (wr.alloc (.cells #[] 49)).drew ∧ SrcAt (wr.alloc (.cells #[] 49)).drew ea en 2 (pcRow ss.2)) := by
        have hb := ((Below.refl wr.heap.size wr).alloc (Nat.le_refl _) (.cells #[] 49)).drew
        exact ⟨owned_heap (empty_row wr 49 2 wr.heap.size (Nat.le_refl _) _ rfl) rfl, hb, src_pcs (HE.out.1.below (HQ1.out.1.d5.low.trans (hb.mono HQ1.out.1.d5.low.size)))⟩
      refine wpAnyY_one (i := 15) rfl (by kernel_rfl) (fun Kc hKc => ?_)
      refine step_append_opt rfl (.tmp 32) (.tmp 38) 37 rfl wr.heap.size 49 i49 _ 2 16 Try.underlying37 hi49 hz490 hz491 hz492 rfl (by decide) (.slice (some ⟨wr.heap.size, 0, none⟩) 0 0) 0 [] (by simp [Act.eval]) HO.out.1 ea en ec (pcRow ss.2) (by simp [Act.eval]) HO.out.2.2 (by unfold maxLen; omega) (by omega) HO.out.2.1.size ?_
      intro v' w10 ho hg
      obtain ⟨ea2, ec2, rfl⟩ := owned_shape ho
      have HX : Hid (Below wr.heap.size wr w10 ∧ w10.ownsRow wr.heap.size 49 2 (.slice ea2 en ec2) en (pcRow ss.2)) := by
        refine ⟨HO.out.2.1.grown hg HO.out.2.1.size (fun k hk => (owned_from' HO.out.1 k hk).1), by simpa using ho⟩
      clear ho hg HO
      rw [Nat.zero_add]
      refine hKc.out _ _ (fun _ _ => HS.out _ (HX.out.1.mono HE.out.2.2)) ?_
      clear hKc Kc
      simp only [Act.put]
      refine wpAnyY_one (i := 16) rfl (by kernel_rfl) (fun Kc hKc => ?_)
      go_simp
      refine hKc.out _ _ (fun _ h => h) ?_
      clear hKc Kc
      refine wpAnyY_one (i := 17) rfl (by kernel_rfl) (fun Kc hKc => ?_)
      go_simp
      refine hKc.out _ _ (fun _ _ => HS.out _ ((HX.out.1.mono HE.out.2.2).alloc (Nat.le_trans HE.out.2.2 HX.out.1.size) _)) ?_
      clear hKc Kc
      have HY : Hid (Below wr.heap.size wr (w10.alloc (.cells #[.int .i64 ss.1, .slice ea2 en ec2] 39)) ∧ (w10.alloc (.cells #[.int .i64 ss.1, .slice ea2 en ec2] 39)).ownsRow wr.heap.size 49 2 (.slice ea2 en ec2) en (pcRow ss.2) ∧ (w10.alloc (.cells #[.int .i64 ss.1, .slice ea2 en ec2] 39)).ownsRow W3.heap.size 39 2 (.slice tt i tcc) i (srRow sl)) := by
        have hb := (Below.refl w10.heap.size w10).alloc (Nat.le_refl _) (.cells #[.int .i64 ss.1, .slice ea2 en ec2] 39)
        have hb2 := HX.out.1.trans (hb.mono HX.out.1.size)
        exact ⟨hb2, owned_below HX.out.2 hb, owned_below HQ1.out.2.2.2.1 hb2⟩
      refine wpAnyY_one (i := 18) rfl (by kernel_rfl) (fun Kc hKc => ?_)
      refine step_append_opt rfl (.tmp 25) (.tmp 41) 24 rfl W3.heap.size 39 i39 _ 2 32 Try.underlying24 hi39 hz390 hz391 hz392 rfl (by decide) (.slice tt i tcc) i (srRow sl) (by simp [Act.eval]) HY.out.2.2 (some ⟨w10.heap.size, 0, none⟩) 1 1 (srCells (ss.1, ea2, en, ec2)) (by simp [Act.eval]) (sr_new' _ _ _ _ _) (by unfold maxLen; omega) (by omega) (Nat.le_trans HE.out.2.2 HY.out.1.size) ?_
      intro v' w12 ho hg
      obtain ⟨tt2, tcc2, rfl⟩ := owned_shape ho
      have HN : Hid (Below W3.heap.size wr w12 ∧ C6 w #[.int .i64 x.letters, .slice da dn dc, .slice sa sn sc, .int .i64 x.beg, .int .i64 x.fin, .int .i64 x.front, .int .i64 x.back, .bool x.banded, .int .i64 x.lo, .int .i64 x.hi, .slice ta tn tc] #[.int .i64 x.letters, .slice da2 dn dc2, .slice sa2 sn sc2, .int .i64 x.beg, .int .i64 x.fin, .int .i64 x.front, .int .i64 x.back, .bool x.banded, .int .i64 x.lo, .int .i64 x.hi, .slice tt i tcc] w12 ∧ w12.ownsRow W3.heap.size 36 4 (.slice da2 dn dc2) dn (dfRow x.defs) ∧ w12.ownsRow W3.heap.size 3 1 (.slice sa2 sn sc2) sn (itRow x.subst) ∧ w12.ownsRow W3.heap.size 39 2 (.slice tt2 (i + 1) tcc2) (i + 1) (srRow (sl ++ [(ss.1, ea2, en, ec2)])) ∧ Own3 w12 W3.heap.size (sl ++ [(ss.1, ea2, en, ec2)]) (x.states.take (i + 1)) ∧ Dj (sl ++ [(ss.1, ea2, en, ec2)])) := by
        have hB : Below W3.heap.size wr w12 := (HY.out.1.mono HE.out.2.2).grown hg (Nat.le_trans HE.out.2.2 HY.out.1.size) (fun k hk => (owned_from' HY.out.2.2 k hk).1)
        refine ⟨hB, HQ1.out.1.next hB (by rw [HZ3.out]; exact Nat.le_refl _), owned_grown (owned_below HQ1.out.2.1 HY.out.1) HY.out.2.2 (by decide) hg, owned_grown (owned_below HQ1.out.2.2.1 HY.out.1) HY.out.2.2 (by decide) hg, ?_, ?_, ?_⟩
        · rw [show srRow (sl ++ [(ss.1, ea2, en, ec2)]) = srRow sl ++ srCells (ss.1, ea2, en, ec2) by simp [srRow]]; exact ho
        · have h3 : Own3 w12 W3.heap.size sl (x.states.take i) := (HQ1.out.2.2.2.2.1.below HY.out.1).grown HY.out.2.2 hg
          have h4 := h3.snoc (k := ss.1) (es := ss.2) (a := ea2) (n := en) (c := ec2) HE.out.1.length.symm (owned_base (owned_grown HY.out.2.1 HY.out.2.2 (by decide) hg) HE.out.2.2)
          obtain ⟨q1, q2⟩ := List.getElem?_eq_some_iff.1 HE.out.2.1
          rw [List.take_succ_eq_append_getElem q1, q2]
          exact h4
        · refine HQ1.out.2.2.2.2.2.snoc (fun j r' a hj ha hb => ?_)
          have hjl : j < (x.states.take i).length := by rw [← HQ1.out.2.2.2.2.1.1]; exact (List.getElem?_eq_some_iff.1 hj).1
          have hd := (HQ1.out.2.2.2.2.1.2 j r' _ hj (List.getElem?_eq_getElem hjl)).2.2
          rcases hd.2 with ⟨hv, _⟩ | ⟨g1, cap1, cur1, hv1, _, hg1, _⟩
          · rw [ha] at hv; cases hv
          · rw [ha] at hv1; cases hv1
            rcases HX.out.2.2 with ⟨hv, _⟩ | ⟨g2, cap2, cur2, hv2, hb2, _⟩
            · cases hv; cases hb
            · cases hv2; cases hb
              have := lt_block hg1
              omega
      clear ho hg HX HY
      refine hKc.out _ _ (fun _ _ => HS.out _ HN.out.1) ?_
      clear hKc Kc
      simp only [Act.put]
      have e10 := (HS.out w12 HN.out.1).1
      have ff : ∀ i, w12.frozen? ⟨w.heap.size + 2, i, none⟩ = false := fun i => frozen_of_row w12 _ i _ _ HN.out.2.1.out
      refine wpAnyY_one (i := 19) rfl (by kernel_rfl) (fun Kc hKc => ?_)
      go_simp
      refine hKc.out _ _ (fun _ h => h) ?_
      clear hKc Kc
      refine wpAnyY_one (i := 20) rfl (by kernel_rfl) (fun Kc hKc => ?_)
      go_simp
      refine hKc.out _ _ (fun h => absurd h (by decide)) ?_
      clear hKc Kc
      refine wpAnyY_done (by kernel_rfl) ?_ _
      have HM : Hid (∃ (tt : Option Addr) (tcc : Nat) (sl : List Sr), C6 w #[.int .i64 x.letters, .slice da dn dc, .slice sa sn sc, .int .i64 x.beg, .int .i64 x.fin, .int .i64 x.front, .int .i64 x.back, .bool x.banded, .int .i64 x.lo, .int .i64 x.hi, .slice ta tn tc] #[.int .i64 x.letters, .slice da2 dn dc2, .slice sa2 sn sc2, .int .i64 x.beg, .int .i64 x.fin, .int .i64 x.front, .int .i64 x.back, .bool x.banded, .int .i64 x.lo, .int .i64 x.hi, .slice tt (i + 1) tcc] (w12.setCell ⟨w.heap.size + 2, 10, none⟩ (.slice tt2 (i + 1) tcc2)) ∧ (w12.setCell ⟨w.heap.size + 2, 10, none⟩ (.slice tt2 (i + 1) tcc2)).ownsRow W3.heap.size 36 4 (.slice da2 dn dc2) dn (dfRow x.defs) ∧ (w12.setCell ⟨w.heap.size + 2, 10, none⟩ (.slice tt2 (i + 1) tcc2)).ownsRow W3.heap.size 3 1 (.slice sa2 sn sc2) sn (itRow x.subst) ∧ (w12.setCell ⟨w.heap.size + 2, 10, none⟩ (.slice tt2 (i + 1) tcc2)).ownsRow W3.heap.size 39 2 (.slice tt (i + 1) tcc) (i + 1) (srRow sl) ∧ Own3 (w12.setCell ⟨w.heap.size + 2, 10, none⟩ (.slice tt2 (i + 1) tcc2)) W3.heap.size sl (x.states.take (i + 1)) ∧ Dj sl) := by
        obtain ⟨_, h6, h1, h2, h3, h4, h5⟩ := HN.out
        have hg := grown_set w12 (w.heap.size + 2) 10 (.slice tt2 (i + 1) tcc2)
        exact ⟨tt2, tcc2, _, h6.put 10 _, own_kind h1 h6.out (by decide) hg, own_kind h2 h6.out (by decide) hg, own_kind h3 h6.out (by decide) hg, h4.kind h6.out (by decide) hg, h5⟩
      clear HN e10 ff hs0 b10 HS HQ1
      go_wp2
      go_roundg (gk - 1)
      case measure => omega
      case rel => exact ⟨i + 1, by omega, by go_num, HM.out⟩
    · have hit : i = tn := by omega
      have hk0 : decide ((i : Int) < (tn : Int)) = false := by simp; omega
      rw [hit] at HQ hk0 ⊢
      clear hit
      obtain ⟨tt, tcc, sl, hc6, hdf, hsu, hst, hrw, hdj⟩ := HQ.out
      have HQ1 : Hid (C6 w #[.int .i64 x.letters, .slice da dn dc, .slice sa sn sc, .int .i64 x.beg, .int .i64 x.fin, .int .i64 x.front, .int .i64 x.back, .bool x.banded, .int .i64 x.lo, .int .i64 x.hi, .slice ta tn tc] #[.int .i64 x.letters, .slice da2 dn dc2, .slice sa2 sn sc2, .int .i64 x.beg, .int .i64 x.fin, .int .i64 x.front, .int .i64 x.back, .bool x.banded, .int .i64 x.lo, .int .i64 x.hi, .slice tt tn tcc] wr ∧ wr.ownsRow W3.heap.size 36 4 (.slice da2 dn dc2) dn (dfRow x.defs) ∧ wr.ownsRow W3.heap.size 3 1 (.slice sa2 sn sc2) sn (itRow x.subst) ∧ wr.ownsRow W3.heap.size 39 2 (.slice tt tn tcc) tn (srRow sl) ∧ Own3 wr W3.heap.size sl (x.states.take tn) ∧ Dj sl) := ⟨hc6, hdf, hsu, hst, hrw, hdj⟩
      clear hc6 hdf hsu hst hrw hdj HQ
      have b10 : wr.cell? ⟨w.heap.size, 10, none⟩ = some (.slice ta tn tc) := blk HQ1.out.1.d5.box rfl
      have o0 : wr.cell? ⟨w.heap.size + 2, 0, none⟩ = some (.int .i64 x.letters) := blk HQ1.out.1.out rfl
      have o1 : wr.cell? ⟨w.heap.size + 2, 1, none⟩ = some (.slice da2 dn dc2) := blk HQ1.out.1.out rfl
      have o2 : wr.cell? ⟨w.heap.size + 2, 2, none⟩ = some (.slice sa2 sn sc2) := blk HQ1.out.1.out rfl
      have o3 : wr.cell? ⟨w.heap.size + 2, 3, none⟩ = some (.int .i64 x.beg) := blk HQ1.out.1.out rfl
      have o4 : wr.cell? ⟨w.heap.size + 2, 4, none⟩ = some (.int .i64 x.fin) := blk HQ1.out.1.out rfl
      have o5 : wr.cell? ⟨w.heap.size + 2, 5, none⟩ = some (.int .i64 x.front) := blk HQ1.out.1.out rfl
      have o6 : wr.cell? ⟨w.heap.size + 2, 6, none⟩ = some (.int .i64 x.back) := blk HQ1.out.1.out rfl
      have o7 : wr.cell? ⟨w.heap.size + 2, 7, none⟩ = some (.bool x.banded) := blk HQ1.out.1.out rfl
      have o8 : wr.cell? ⟨w.heap.size + 2, 8, none⟩ = some (.int .i64 x.lo) := blk HQ1.out.1.out rfl
      have o9 : wr.cell? ⟨w.heap.size + 2, 9, none⟩ = some (.int .i64 x.hi) := blk HQ1.out.1.out rfl
      have o10 : wr.cell? ⟨w.heap.size + 2, 10, none⟩ = some (.slice tt tn tcc) := blk HQ1.out.1.out rfl
      have r0 : wr.cell? ⟨w.heap.size + 1, 0, none⟩ = some (.int .i64 0) := blk HQ1.out.1.d5.res rfl
      have r1 : wr.cell? ⟨w.heap.size + 1, 1, none⟩ = some (.slice none 0 0) := blk HQ1.out.1.d5.res rfl
      have r2 : wr.cell? ⟨w.heap.size + 1, 2, none⟩ = some (.slice none 0 0) := blk HQ1.out.1.d5.res rfl
      have r3 : wr.cell? ⟨w.heap.size + 1, 3, none⟩ = some (.int .i64 0) := blk HQ1.out.1.d5.res rfl
      have r4 : wr.cell? ⟨w.heap.size + 1, 4, none⟩ = some (.int .i64 0) := blk HQ1.out.1.d5.res rfl
      have r5 : wr.cell? ⟨w.heap.size + 1, 5, none⟩ = some (.int .i64 0) := blk HQ1.out.1.d5.res rfl
      have r6 : wr.cell? ⟨w.heap.size + 1, 6, none⟩ = some (.int .i64 0) := blk HQ1.out.1.d5.res rfl
      have r7 : wr.cell? ⟨w.heap.size + 1, 7, none⟩ = some (.bool false) := blk HQ1.out.1.d5.res rfl
      have r8 : wr.cell? ⟨w.heap.size + 1, 8, none⟩ = some (.int .i64 0) := blk HQ1.out.1.d5.res rfl
      have r9 : wr.cell? ⟨w.heap.size + 1, 9, none⟩ = some (.int .i64 0) := blk HQ1.out.1.d5.res rfl
      have r10 : wr.cell? ⟨w.heap.size + 1, 10, none⟩ = some (.slice none 0 0) := blk HQ1.out.1.d5.res rfl
      have ff : ∀ i, wr.frozen? ⟨w.heap.size + 1, i, none⟩ = false := fun i => frozen_of_row wr _ i _ _ HQ1.out.1.d5.res
      go_wp2
      refine bodyPost_ret (v := .agg #[.int .i64 x.letters, .slice da2 dn dc2, .slice sa2 sn sc2, .int .i64 x.beg, .int .i64 x.fin, .int .i64 x.front, .int .i64 x.back, .bool x.banded, .int .i64 x.lo, .int .i64 x.hi, .slice tt tn tcc]) ?_ rfl ?_
      · simp only [results, hres]
        go_simp
      · refine ⟨da2, dc2, sa2, sc2, tt, tcc, sl, by rw [HL.out.1, HL.out.2.1, HL.out.2.2], below_r HQ1.out.1.d5.low _ _ _ _ _ _ _ _ _ _ _, ?_⟩
        have hg : wr.grownBy _ (some (w.heap.size + 1)) := grown_r (w := w) (W := wr) (.int .i64 x.letters) (.slice da2 dn dc2) (.slice sa2 sn sc2) (.int .i64 x.beg) (.int .i64 x.fin) (.int .i64 x.front) (.int .i64 x.back) (.bool x.banded) (.int .i64 x.lo) (.int .i64 x.hi) (.slice tt tn tcc)
        have hz : w.heap.size ≤ W3.heap.size := by have := HZ3.out; omega
        obtain ⟨h6, h1, h2, h3, h4, h5⟩ := HQ1.out
        have hrs := h6.d5.res
        rw [List.take_of_length_le (by rw [HL.out.2.2]; exact Nat.le_refl _)] at h4
        have h4' := h4.kind hrs (by decide) hg
        refine ⟨?_, ?_, ?_, ⟨h4'.1, fun i r s hi hs => ⟨(h4'.2 i r s hi hs).1, (h4'.2 i r s hi hs).2.1, owned_base (h4'.2 i r s hi hs).2.2 hz⟩⟩, h5⟩
        · rw [HL.out.1]; exact owned_base (own_kind h1 hrs (by decide) hg) hz
        · rw [HL.out.2.1]; exact owned_base (own_kind h2 hrs (by decide) hg) hz
        · rw [HL.out.2.2]; exact owned_base (own_kind h3 hrs (by decide) hg) hz
end Go.Proofs.Ytolehoibpnenlaa
