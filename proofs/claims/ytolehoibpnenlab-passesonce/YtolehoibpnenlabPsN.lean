/-
  awake.
-/
import Derived.Test.YtolehoibpnenlabPsJ
import Derived.Test.YtolehoibpnenlabMx
namespace Go.Proofs.Ytolehoibpnenlab
open Go.RowKit Go.Deep Go.Maps

theorem dfs_at {W : World} {g : Nat} {l : List Df} {cs : Array Value} {off : Nat} (h : W.heap[g]? = some (.cells cs 34 (0, 0))) (hc : ∀ (j : Nat) (u : Value), (dfRow l)[j]? = some u → cs[off + j]? = some u) (hs : l.length ≤ maxLen) (hf : ∀ d ∈ l, InR d.num) : DfsAt W (some ⟨g, off, none⟩) l.length l := by
  refine ⟨rfl, hs, hf, fun _ => ⟨g, off, rfl, fun i d hi => ?_⟩⟩
  have k : ∀ (j : Nat) (u : Value), (dfCells d)[j]? = some u → W.cell? ⟨g, off + i * 4 + j, none⟩ = some u := fun j u hj => by
    rw [Nat.add_assoc]
    exact blk h (hc _ u (flat_get (f := dfCells) (s := 4) (fun _ => rfl) l i d j u hi hj))
  exact ⟨k 0 _ rfl, k 1 _ rfl, k 2 _ rfl, k 3 _ rfl⟩
theorem int_at {W : World} {g : Nat} {l : List Int} {cs : Array Value} {off : Nat} (h : W.heap[g]? = some (.cells cs 3 (0, 0))) (hc : ∀ (j : Nat) (u : Value), (itRow l)[j]? = some u → cs[off + j]? = some u) (hs : l.length ≤ maxLen) : IntA W (some ⟨g, off, none⟩) l.length l :=
  ⟨rfl, hs, fun i v hi => ⟨g, off, rfl, blk h (hc i _ (by simp [itRow, hi]))⟩⟩
theorem dfs_own {w : World} {base : Nat} {ao : Option Addr} {c : Nat} {l : List Df} (h : w.ownsRow base 34 4 (.slice ao l.length c) l.length (dfRow l)) (hs : l.length ≤ maxLen) (hf : ∀ d ∈ l, InR d.num) : DfsAt w ao l.length l := by
  rcases h.2 with ⟨hv, h0⟩ | ⟨g, cap, cur, hv, _, hg, _, _, _, h4⟩
  · have : l = [] := List.length_eq_zero_iff.1 h0
    subst this
    exact DfsAt.nil _ _
  · injection hv with e1
    subst e1
    refine dfs_at hg (fun j u hj => ?_) hs hf
    rw [← h4] at hj
    rw [Nat.zero_add]
    have h5 : j < (cur.toList.take (l.length * 4)).length := (List.getElem?_eq_some_iff.1 hj).1
    rw [List.getElem?_take_of_lt (by simp at h5; omega)] at hj
    simpa using hj
structure Fit (x : Rc) : Prop where
  nums : ∀ d ∈ x.defs, InR d.num
  defs : x.defs.length ≤ 100000
  subst : x.subst.length ≤ 100000
  states : x.states.length ≤ 1000
theorem RcO.at {w : World} {base : Nat} {x : Rc} {da : Option Addr} {dc : Nat} {sa : Option Addr} {sc : Nat} {ta : Option Addr} {tc : Nat} (h : RcO w base x da dc sa sc ta tc) (hf : Fit x) : RcAt w x da x.defs.length sa x.subst.length ta x.states.length :=
  ⟨dfs_own h.defs (by unfold maxLen; have := hf.defs; omega) hf.nums, intA_own h.subst rfl (by unfold maxLen; have := hf.subst; omega), h.states.at rfl hf.states⟩
theorem rcNil (w : World) (x : Rc) (h1 : x.defs = []) (h2 : x.subst = []) (h3 : x.states = []) : RcAt w x none 0 none 0 none 0 := by
  refine ⟨by rw [h1]; exact DfsAt.nil _ _, ⟨by rw [h2]; rfl, Nat.zero_le _, fun i v hi => by rw [h2] at hi; simp at hi⟩, ⟨by rw [h3]; rfl, Nat.zero_le _, fun h => absurd h (by decide)⟩⟩
def zeroX : Rc := ⟨0, [], [], 0, 0, 0, 0, false, 0, 0, []⟩
def wakeX : Rc := ⟨2, [⟨1, 2, 0, 0⟩, ⟨1, 2, 0, 0⟩, ⟨3, 0, 0, 1⟩], [2, 2, 2, 2], 3, 3, 0, 0, false, 0, 0, []⟩
def wantX : Rc := ⟨2, [⟨1, 2, 0, 0⟩, ⟨1, 4, 0, 0⟩], [1, 1, 1, 1], 3, 3, 0, 0, false, 0, 0, []⟩
theorem wake_fold : (foldP.2 wakeX (valsB wakeX.defs).1).1 = wantX := by kernel_rfl
theorem wake_right : rightR wakeX = true := by kernel_rfl
theorem zero_right : rightR zeroX = false := by kernel_rfl
theorem want_fit : Fit wantX := ⟨fun d hd => by simp [wantX] at hd; rcases hd with rfl | rfl <;> simp [InR], by simp [wantX], by simp [wantX], by simp [wantX]⟩
/-- The literals. -/
theorem lit_at {W : World} {gd gs : Nat} {x : Rc} {cd cs : Array Value} (h1 : W.heap[gd]? = some (.cells cd 34 (0, 0))) (e1 : cd.toList = dfRow x.defs) (h2 : W.heap[gs]? = some (.cells cs 3 (0, 0))) (e2 : cs.toList = itRow x.subst) (h3 : x.states = []) (hf : Fit x) : RcAt W x (some ⟨gd, 0, none⟩) x.defs.length (some ⟨gs, 0, none⟩) x.subst.length none 0 := by
  refine ⟨dfs_at h1 (fun j u hj => by rw [Nat.zero_add, ← Array.getElem?_toList, e1]; exact hj) (by unfold maxLen; have := hf.defs; omega) hf.nums, int_at h2 (fun j u hj => by rw [Nat.zero_add, ← Array.getElem?_toList, e2]; exact hj) (by unfold maxLen; have := hf.subst; omega), ⟨by rw [h3]; rfl, Nat.zero_le _, fun h => absurd h (by decide)⟩⟩
theorem three_blk (W : World) (a b c : Obj) : ((W.alloc a).alloc b |>.alloc c).heap[W.heap.size]? = some a ∧ ((W.alloc a).alloc b |>.alloc c).heap[W.heap.size + 1]? = some b ∧ ((W.alloc a).alloc b |>.alloc c).heap[W.heap.size + 2]? = some c ∧ Below W.heap.size W ((W.alloc a).alloc b |>.alloc c) := by
  have h1 := (Below.refl (W.alloc a).heap.size (W.alloc a)).alloc (Nat.le_refl _) b
  have h2 := (Below.refl ((W.alloc a).alloc b).heap.size ((W.alloc a).alloc b)).alloc (Nat.le_refl _) c
  have s1 : (W.alloc a).heap.size = W.heap.size + 1 := by simp
  have s2 : ((W.alloc a).alloc b).heap.size = W.heap.size + 2 := by simp
  refine ⟨?_, ?_, ?_, (((Below.refl _ _).alloc (Nat.le_refl _) _).alloc (by simp) _).alloc (by simp; omega) _⟩
  · rw [h2.block _ (by rw [s2]; omega), h1.block _ (by rw [s1]; omega)]; exact heap_alloc_new W _
  · rw [h2.block _ (by rw [s2]; omega), ← s1]; exact heap_alloc_new _ _
  · rw [← s2]; exact heap_alloc_new _ _

set_option maxRecDepth 20000 in
set_option maxHeartbeats 4000000 in
theorem awake_calls (w : World) : Calls Try.prog 4 #[] w fun e w' => e = .returned (.bool true) ∧ Below w.heap.size w w' := by
  have HF : Hid (∀ W gd gs, RcAt W wakeX (some ⟨gd, 0, none⟩) 3 (some ⟨gs, 0, none⟩) 4 none 0 → Calls Try.prog 6 #[.agg (rcCells wakeX (some ⟨gd, 0, none⟩) 3 3 (some ⟨gs, 0, none⟩) 4 4 none 0 0)] W fun e w' => PassPost true wantX W e w') := fun W gd gs hW => by
    have := foldF_any (x := wakeX) (.inl foldP_ok) (some ⟨gd, 0, none⟩) 3 3 (some ⟨gs, 0, none⟩) 4 4 none 0 0 W hW
    rw [wake_fold, wake_right] at this
    exact this
  have HZ : Hid (∀ W, Calls Try.prog 7 #[.agg (rcCells zeroX none 0 0 none 0 0 none 0 0)] W fun e w' => PassPost false (drpP.2 zeroX (valsB zeroX.defs).1).1 W e w') := fun W => by
    have := dropF_any (x := zeroX) (.inr zero_right) none 0 0 none 0 0 none 0 0 W (rcNil W zeroX rfl rfl rfl)
    rw [zero_right] at this
    exact this
  have HS : Hid (∀ W da dc sa sc ta tc gd gs, RcAt W wantX da 2 sa 4 ta 0 → RcAt W wantX (some ⟨gd, 0, none⟩) 2 (some ⟨gs, 0, none⟩) 4 none 0 → Calls Try.prog 9 #[.agg (rcCells wantX da 2 dc sa 4 sc ta 0 tc), .agg (rcCells wantX (some ⟨gd, 0, none⟩) 2 2 (some ⟨gs, 0, none⟩) 4 4 none 0 0)] W fun e w' => e = .returned (.bool true) ∧ Below W.heap.size W w') := fun W da dc sa sc ta tc gd gs h1 h2 => same_calls wantX da 2 dc sa 4 sc ta 0 tc (some ⟨gd, 0, none⟩) 2 (some ⟨gs, 0, none⟩) 4 none 0 W h1 h2
  simp only [rcCells, wakeX, wantX, zeroX] at HF HZ HS
  have HW1 : Hid (RcAt (((w.alloc (.cells #[.int .i64 1, .int .i64 2, .int .i64 0, .int .i64 0, .int .i64 1, .int .i64 2, .int .i64 0, .int .i64 0, .int .i64 3, .int .i64 0, .int .i64 0, .int .i64 1] 34)).alloc (.cells #[.int .i64 2, .int .i64 2, .int .i64 2, .int .i64 2] 3)).alloc (.cells #[.int .i64 2, .slice (some ⟨w.heap.size, 0, none⟩) 3 3, .slice (some ⟨w.heap.size + 1, 0, none⟩) 4 4, .int .i64 3, .int .i64 3, .int .i64 0, .int .i64 0, .bool false, .int .i64 0, .int .i64 0, .slice none 0 0] 26)) wakeX (some ⟨w.heap.size, 0, none⟩) 3 (some ⟨w.heap.size + 1, 0, none⟩) 4 none 0 ∧ Below w.heap.size w (((w.alloc (.cells #[.int .i64 1, .int .i64 2, .int .i64 0, .int .i64 0, .int .i64 1, .int .i64 2, .int .i64 0, .int .i64 0, .int .i64 3, .int .i64 0, .int .i64 0, .int .i64 1] 34)).alloc (.cells #[.int .i64 2, .int .i64 2, .int .i64 2, .int .i64 2] 3)).alloc (.cells #[.int .i64 2, .slice (some ⟨w.heap.size, 0, none⟩) 3 3, .slice (some ⟨w.heap.size + 1, 0, none⟩) 4 4, .int .i64 3, .int .i64 3, .int .i64 0, .int .i64 0, .bool false, .int .i64 0, .int .i64 0, .slice none 0 0] 26))) := by
    obtain ⟨q1, q2, q3, q4⟩ := three_blk w (.cells #[.int .i64 1, .int .i64 2, .int .i64 0, .int .i64 0, .int .i64 1, .int .i64 2, .int .i64 0, .int .i64 0, .int .i64 3, .int .i64 0, .int .i64 0, .int .i64 1] 34) (.cells #[.int .i64 2, .int .i64 2, .int .i64 2, .int .i64 2] 3) (.cells #[.int .i64 2, .slice (some ⟨w.heap.size, 0, none⟩) 3 3, .slice (some ⟨w.heap.size + 1, 0, none⟩) 4 4, .int .i64 3, .int .i64 3, .int .i64 0, .int .i64 0, .bool false, .int .i64 0, .int .i64 0, .slice none 0 0] 26)
    exact ⟨lit_at (x := wakeX) q1 rfl q2 rfl rfl ⟨fun d hd => by simp [wakeX] at hd; rcases hd with rfl | rfl <;> simp [InR], by simp [wakeX], by simp [wakeX], by simp [wakeX]⟩, q4⟩
  simp only [wakeX] at HW1
  go_enter Try.func4, Try.ntmps4
  go_wp2_with fail
  refine (HF.out _ _ _ HW1.out.1).mono ?_
  intro e w2 hp
  simp only [PassPost, if_true] at hp
  obtain ⟨da2, dc2, sa2, sc2, ta2, tc2, rfl, hb2, ho2⟩ := hp
  have HW2 : Hid (Below w.heap.size w w2 ∧ ∃ b, RcO w2 b wantX da2 dc2 sa2 sc2 ta2 tc2) := ⟨HW1.out.2.trans (hb2.mono HW1.out.2.size), _, ho2⟩
  clear hb2 ho2 HW1 HF
  unfold rcCells
  simp only [List.length_cons, List.length_nil, Nat.zero_add, Nat.reduceAdd]
  go_wp2_with fail
  refine (HZ.out _).mono ?_
  intro e w3 hp
  simp only [PassPost, Bool.false_eq_true, if_false] at hp
  obtain ⟨rfl, hb3⟩ := hp
  have HW3 : Hid (Below w.heap.size w w3 ∧ (∃ b, RcO w3 b wantX da2 dc2 sa2 sc2 ta2 tc2) ∧ w3.heap[w2.heap.size]? = some (.cells #[.int .i64 2, .slice da2 2 dc2, .slice sa2 4 sc2, .int .i64 3, .int .i64 3, .int .i64 0, .int .i64 0, .bool false, .int .i64 0, .int .i64 0, .slice ta2 0 tc2] 26 (0, 0))) := by
    have h0 : Below w2.heap.size w2 (w2.alloc (.cells #[.int .i64 2, .slice da2 2 dc2, .slice sa2 4 sc2, .int .i64 3, .int .i64 3, .int .i64 0, .int .i64 0, .bool false, .int .i64 0, .int .i64 0, .slice ta2 0 tc2] 26)) := (Below.refl _ _).alloc (Nat.le_refl _) _
    obtain ⟨b, hb⟩ := HW2.out.2
    refine ⟨HW2.out.1.trans ((h0.trans (hb3.mono h0.size)).mono HW2.out.1.size), ⟨b, (hb.below h0).below hb3⟩, ?_⟩
    rw [hb3.block _ (by simp)]
    exact heap_alloc_new w2 _
  clear hb3 HW2 HZ
  unfold zeroR
  obtain ⟨w5, hw5⟩ : ∃ w5, w5 = w3.alloc (.cells #[.int .i64 0, .slice none 0 0, .slice none 0 0, .int .i64 0, .int .i64 0, .int .i64 0, .int .i64 0, .bool false, .int .i64 0, .int .i64 0, .slice none 0 0] 26) := ⟨_, rfl⟩
  have HW5 : Hid (Below w.heap.size w w5 ∧ (∃ b, RcO w5 b wantX da2 dc2 sa2 sc2 ta2 tc2) ∧ w5.heap[w2.heap.size]? = some (.cells #[.int .i64 2, .slice da2 2 dc2, .slice sa2 4 sc2, .int .i64 3, .int .i64 3, .int .i64 0, .int .i64 0, .bool false, .int .i64 0, .int .i64 0, .slice ta2 0 tc2] 26 (0, 0))) := by
    have h0 : Below w3.heap.size w3 w5 := by rw [hw5]; exact (Below.refl _ _).alloc (Nat.le_refl _) _
    obtain ⟨b, hb⟩ := HW3.out.2.1
    refine ⟨HW3.out.1.trans (h0.mono HW3.out.1.size), ⟨b, hb.below h0⟩, ?_⟩
    rw [h0.block _ (lt_block HW3.out.2.2)]
    exact HW3.out.2.2
  clear HW3
  go_upto_region 4 with (fail)
  rw [← hw5]
  clear hw5
  have HW6 : Hid (RcAt (((w5.alloc (.cells #[.int .i64 1, .int .i64 2, .int .i64 0, .int .i64 0, .int .i64 1, .int .i64 4, .int .i64 0, .int .i64 0] 34)).alloc (.cells #[.int .i64 1, .int .i64 1, .int .i64 1, .int .i64 1] 3)).alloc (.cells #[.int .i64 2, .slice (some ⟨w5.heap.size, 0, none⟩) 2 2, .slice (some ⟨w5.heap.size + 1, 0, none⟩) 4 4, .int .i64 3, .int .i64 3, .int .i64 0, .int .i64 0, .bool false, .int .i64 0, .int .i64 0, .slice none 0 0] 26)) wantX da2 2 sa2 4 ta2 0 ∧ RcAt (((w5.alloc (.cells #[.int .i64 1, .int .i64 2, .int .i64 0, .int .i64 0, .int .i64 1, .int .i64 4, .int .i64 0, .int .i64 0] 34)).alloc (.cells #[.int .i64 1, .int .i64 1, .int .i64 1, .int .i64 1] 3)).alloc (.cells #[.int .i64 2, .slice (some ⟨w5.heap.size, 0, none⟩) 2 2, .slice (some ⟨w5.heap.size + 1, 0, none⟩) 4 4, .int .i64 3, .int .i64 3, .int .i64 0, .int .i64 0, .bool false, .int .i64 0, .int .i64 0, .slice none 0 0] 26)) wantX (some ⟨w5.heap.size, 0, none⟩) 2 (some ⟨w5.heap.size + 1, 0, none⟩) 4 none 0 ∧ Below w.heap.size w (((w5.alloc (.cells #[.int .i64 1, .int .i64 2, .int .i64 0, .int .i64 0, .int .i64 1, .int .i64 4, .int .i64 0, .int .i64 0] 34)).alloc (.cells #[.int .i64 1, .int .i64 1, .int .i64 1, .int .i64 1] 3)).alloc (.cells #[.int .i64 2, .slice (some ⟨w5.heap.size, 0, none⟩) 2 2, .slice (some ⟨w5.heap.size + 1, 0, none⟩) 4 4, .int .i64 3, .int .i64 3, .int .i64 0, .int .i64 0, .bool false, .int .i64 0, .int .i64 0, .slice none 0 0] 26)) ∧ (((w5.alloc (.cells #[.int .i64 1, .int .i64 2, .int .i64 0, .int .i64 0, .int .i64 1, .int .i64 4, .int .i64 0, .int .i64 0] 34)).alloc (.cells #[.int .i64 1, .int .i64 1, .int .i64 1, .int .i64 1] 3)).alloc (.cells #[.int .i64 2, .slice (some ⟨w5.heap.size, 0, none⟩) 2 2, .slice (some ⟨w5.heap.size + 1, 0, none⟩) 4 4, .int .i64 3, .int .i64 3, .int .i64 0, .int .i64 0, .bool false, .int .i64 0, .int .i64 0, .slice none 0 0] 26)).heap[w2.heap.size]? = some (.cells #[.int .i64 2, .slice da2 2 dc2, .slice sa2 4 sc2, .int .i64 3, .int .i64 3, .int .i64 0, .int .i64 0, .bool false, .int .i64 0, .int .i64 0, .slice ta2 0 tc2] 26 (0, 0)) ∧ (((w5.alloc (.cells #[.int .i64 1, .int .i64 2, .int .i64 0, .int .i64 0, .int .i64 1, .int .i64 4, .int .i64 0, .int .i64 0] 34)).alloc (.cells #[.int .i64 1, .int .i64 1, .int .i64 1, .int .i64 1] 3)).alloc (.cells #[.int .i64 2, .slice (some ⟨w5.heap.size, 0, none⟩) 2 2, .slice (some ⟨w5.heap.size + 1, 0, none⟩) 4 4, .int .i64 3, .int .i64 3, .int .i64 0, .int .i64 0, .bool false, .int .i64 0, .int .i64 0, .slice none 0 0] 26)).heap[w5.heap.size + 2]? = some (.cells #[.int .i64 2, .slice (some ⟨w5.heap.size, 0, none⟩) 2 2, .slice (some ⟨w5.heap.size + 1, 0, none⟩) 4 4, .int .i64 3, .int .i64 3, .int .i64 0, .int .i64 0, .bool false, .int .i64 0, .int .i64 0, .slice none 0 0] 26 (0, 0))) := by
    obtain ⟨q1, q2, q3, q4⟩ := three_blk w5 (.cells #[.int .i64 1, .int .i64 2, .int .i64 0, .int .i64 0, .int .i64 1, .int .i64 4, .int .i64 0, .int .i64 0] 34) (.cells #[.int .i64 1, .int .i64 1, .int .i64 1, .int .i64 1] 3) (.cells #[.int .i64 2, .slice (some ⟨w5.heap.size, 0, none⟩) 2 2, .slice (some ⟨w5.heap.size + 1, 0, none⟩) 4 4, .int .i64 3, .int .i64 3, .int .i64 0, .int .i64 0, .bool false, .int .i64 0, .int .i64 0, .slice none 0 0] 26)
    obtain ⟨b, hb⟩ := HW5.out.2.1
    refine ⟨(hb.below q4).at want_fit, lit_at (x := wantX) q1 rfl q2 rfl rfl want_fit, HW5.out.1.trans (q4.mono HW5.out.1.size), ?_, q3⟩
    rw [q4.block _ (lt_block HW5.out.2.2)]
    exact HW5.out.2.2
  go_upto_region 5 with (fail)
  obtain ⟨w6, hw6⟩ : ∃ w6, w6 = (((w5.alloc (.cells #[.int .i64 1, .int .i64 2, .int .i64 0, .int .i64 0, .int .i64 1, .int .i64 4, .int .i64 0, .int .i64 0] 34)).alloc (.cells #[.int .i64 1, .int .i64 1, .int .i64 1, .int .i64 1] 3)).alloc (.cells #[.int .i64 2, .slice (some ⟨w5.heap.size, 0, none⟩) 2 2, .slice (some ⟨w5.heap.size + 1, 0, none⟩) 4 4, .int .i64 3, .int .i64 3, .int .i64 0, .int .i64 0, .bool false, .int .i64 0, .int .i64 0, .slice none 0 0] 26)) := ⟨_, rfl⟩
  rw [← hw6] at HW6 ⊢
  clear hw6
  have c0 : w6.cell? ⟨w2.heap.size, 0, none⟩ = some (.int .i64 2) := blk HW6.out.2.2.2.1 rfl
  have c1 : w6.cell? ⟨w2.heap.size, 1, none⟩ = some (.slice da2 2 dc2) := blk HW6.out.2.2.2.1 rfl
  have c2 : w6.cell? ⟨w2.heap.size, 2, none⟩ = some (.slice sa2 4 sc2) := blk HW6.out.2.2.2.1 rfl
  have c3 : w6.cell? ⟨w2.heap.size, 3, none⟩ = some (.int .i64 3) := blk HW6.out.2.2.2.1 rfl
  have c4 : w6.cell? ⟨w2.heap.size, 4, none⟩ = some (.int .i64 3) := blk HW6.out.2.2.2.1 rfl
  have c5 : w6.cell? ⟨w2.heap.size, 5, none⟩ = some (.int .i64 0) := blk HW6.out.2.2.2.1 rfl
  have c6 : w6.cell? ⟨w2.heap.size, 6, none⟩ = some (.int .i64 0) := blk HW6.out.2.2.2.1 rfl
  have c7 : w6.cell? ⟨w2.heap.size, 7, none⟩ = some (.bool false) := blk HW6.out.2.2.2.1 rfl
  have c8 : w6.cell? ⟨w2.heap.size, 8, none⟩ = some (.int .i64 0) := blk HW6.out.2.2.2.1 rfl
  have c9 : w6.cell? ⟨w2.heap.size, 9, none⟩ = some (.int .i64 0) := blk HW6.out.2.2.2.1 rfl
  have c10 : w6.cell? ⟨w2.heap.size, 10, none⟩ = some (.slice ta2 0 tc2) := blk HW6.out.2.2.2.1 rfl
  have d0 : w6.cell? ⟨w5.heap.size + 2, 0, none⟩ = some (.int .i64 2) := blk HW6.out.2.2.2.2 rfl
  have d1 : w6.cell? ⟨w5.heap.size + 2, 1, none⟩ = some (.slice (some ⟨w5.heap.size, 0, none⟩) 2 2) := blk HW6.out.2.2.2.2 rfl
  have d2 : w6.cell? ⟨w5.heap.size + 2, 2, none⟩ = some (.slice (some ⟨w5.heap.size + 1, 0, none⟩) 4 4) := blk HW6.out.2.2.2.2 rfl
  have d3 : w6.cell? ⟨w5.heap.size + 2, 3, none⟩ = some (.int .i64 3) := blk HW6.out.2.2.2.2 rfl
  have d4 : w6.cell? ⟨w5.heap.size + 2, 4, none⟩ = some (.int .i64 3) := blk HW6.out.2.2.2.2 rfl
  have d5 : w6.cell? ⟨w5.heap.size + 2, 5, none⟩ = some (.int .i64 0) := blk HW6.out.2.2.2.2 rfl
  have d6 : w6.cell? ⟨w5.heap.size + 2, 6, none⟩ = some (.int .i64 0) := blk HW6.out.2.2.2.2 rfl
  have d7 : w6.cell? ⟨w5.heap.size + 2, 7, none⟩ = some (.bool false) := blk HW6.out.2.2.2.2 rfl
  have d8 : w6.cell? ⟨w5.heap.size + 2, 8, none⟩ = some (.int .i64 0) := blk HW6.out.2.2.2.2 rfl
  have d9 : w6.cell? ⟨w5.heap.size + 2, 9, none⟩ = some (.int .i64 0) := blk HW6.out.2.2.2.2 rfl
  have d10 : w6.cell? ⟨w5.heap.size + 2, 10, none⟩ = some (.slice none 0 0) := blk HW6.out.2.2.2.2 rfl
  simp only [wantX] at HW6
  go_wp2_with fail
  refine (HS.out w6 _ _ _ _ _ _ _ _ HW6.out.1 HW6.out.2.1).mono ?_
  rintro e w7 ⟨rfl, hb7⟩
  have HB7 : Hid (Below w.heap.size w w7) := HW6.out.2.2.1.trans (hb7.mono HW6.out.2.2.1.size)
  clear hb7
  go_wp2
  go_ret
  exact ⟨rfl, HB7.out⟩
end Go.Proofs.Ytolehoibpnenlab
