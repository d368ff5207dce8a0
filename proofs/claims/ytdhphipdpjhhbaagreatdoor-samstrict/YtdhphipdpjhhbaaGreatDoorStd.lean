/-
  What the standard library's own variables hold; fields as values; the walks of sam's write, tabbed, join, Line.
-/
import Derived.Test.YtdhphipdpjhhbaaGreatDoorRecs
import Derived.Test.YtdhphipdpjhhbaaGreatDoorPrint
import Derived.Deep.CutRange
import Derived.Deep.DeepCutAuto
import Derived.Deep.RegionHeld3
namespace Go.Proofs.YtdhphipdpjhhbaaGreatDoor
open Go.RowKit

/-- A cell holds an interface's value. -/
def IfaceCell (w : World) (k : Nat) : Prop := ∃ ev, w.cell? ⟨k, 0, none⟩ = some ev ∧ (ev = .nilIface ∨ ∃ te pe, ev = .iface te pe)
/-- What the standard library reads: the table of powers, the greatest length, two errors. -/
structure Std (w : World) : Prop where
  tab : TabOk w
  most : ∃ m, w.cell? ⟨0, 0, none⟩ = some (.int .i64 m)
  syn : IfaceCell w 1
  rng : IfaceCell w 2
theorem Std.below {w w' : World} (h : Std w) (hb : Below w.heap.size w w') : Std w' := by
  refine ⟨h.tab.below hb, ?_, ?_, ?_⟩
  · obtain ⟨m, hm⟩ := h.most
    exact ⟨m, by rw [hb.cell (World.block_lt_of_cell? w _ hm)]; exact hm⟩
  · obtain ⟨ev, he, hs⟩ := h.syn
    exact ⟨ev, by rw [hb.cell (World.block_lt_of_cell? w _ he)]; exact he, hs⟩
  · obtain ⟨ev, he, hs⟩ := h.rng
    exact ⟨ev, by rw [hb.cell (World.block_lt_of_cell? w _ he)]; exact he, hs⟩
theorem itoa_calls (z : Int) (w : World) (hz : fitI z) (hs : Std w) :
    Calls Tryz.prog 56 #[.int .i64 z] w fun e w' => e = .returned (.string ⟨(Lib.itoa z).toArray⟩) ∧ Below w.heap.size w w' := by
  refine (Tryz.strconv_Itoa z hz.1 hz.2 w hs.tab).mono ?_
  rintro e w' ⟨rfl, k, os, rfl⟩
  exact ⟨rfl, Lib.below_grow _ _ (Nat.le_refl _) _ _⟩

/-- A line's fields as a value. -/
structure FV where
  name : ByteArray
  flag : ByteArray
  ref : ByteArray
  pos : ByteArray
  qual : ByteArray
  runs : ByteArray
  mate : ByteArray
  mpos : ByteArray
  size : ByteArray
  bases : ByteArray
  quals : ByteArray
  score : ByteArray
abbrev FV.val (f : FV) : Value := .agg #[.string f.name, .string f.flag, .string f.ref, .string f.pos, .string f.qual, .string f.runs, .string f.mate, .string f.mpos, .string f.size, .string f.bases, .string f.quals, .string f.score]
def FV.eleven (f : FV) : List ByteArray := [f.name, f.flag, f.ref, f.pos, f.qual, f.runs, f.mate, f.mpos, f.size, f.bases, f.quals]
def FV.L (f : FV) : List (List UInt8) := f.eleven.map (·.data.toList) ++ [f.score.data.toList]
def twelveF (r : Rec) : List (List UInt8) := elevenF r ++ [scoreF r]
theorem FV.ext {f g : FV} (h : f.L = g.L) : f = g := by
  cases f; cases g
  simp only [FV.L, FV.eleven, List.map_cons, List.map_nil, List.cons_append, List.nil_append, List.cons.injEq] at h
  simp only [byte_inj] at h
  obtain ⟨rfl, rfl, rfl, rfl, rfl, rfl, rfl, rfl, rfl, rfl, rfl, rfl, _⟩ := h
  rfl
theorem str_ext {l : List UInt8} {t : ByteArray} (h : t.data.toList = l) : (⟨l.toArray⟩ : ByteArray) = t := byte_ext (by rw [mk_list, h])

theorem alloc2_heap (w : World) (o1 o2 : Obj) : ((w.alloc o1).alloc o2).heap[w.heap.size]? = some o1 ∧ ((w.alloc o1).alloc o2).heap[w.heap.size + 1]? = some o2 ∧ Below w.heap.size w ((w.alloc o1).alloc o2) := by
  have hs : (w.alloc o1).heap.size = w.heap.size + 1 := by simp
  have b1 : Below w.heap.size w (w.alloc o1) := below_new w o1
  have b2 : Below (w.alloc o1).heap.size (w.alloc o1) ((w.alloc o1).alloc o2) := below_new _ o2
  refine ⟨?_, ?_, b1.trans (b2.mono (by omega))⟩
  · rw [b2.block _ (by omega)]; exact heap_alloc_new w o1
  · have := heap_alloc_new (w.alloc o1) o2
    rwa [hs] at this
theorem alloc3_heap (w : World) (o1 o2 o3 : Obj) : (((w.alloc o1).alloc o2).alloc o3).heap[w.heap.size]? = some o1 ∧ (((w.alloc o1).alloc o2).alloc o3).heap[w.heap.size + 1]? = some o2 ∧ (((w.alloc o1).alloc o2).alloc o3).heap[w.heap.size + 1 + 1]? = some o3 ∧ Below w.heap.size w (((w.alloc o1).alloc o2).alloc o3) := by
  obtain ⟨h1, h2, h3⟩ := alloc2_heap w o1 o2
  have hs : ((w.alloc o1).alloc o2).heap.size = w.heap.size + 1 + 1 := by simp
  have b : Below ((w.alloc o1).alloc o2).heap.size ((w.alloc o1).alloc o2) (((w.alloc o1).alloc o2).alloc o3) := below_new _ o3
  refine ⟨?_, ?_, ?_, h3.trans (b.mono (by omega))⟩
  · rw [b.block _ (by omega)]; exact h1
  · rw [b.block _ (by omega)]; exact h2
  · have := heap_alloc_new ((w.alloc o1).alloc o2) o3
    rwa [hs] at this
def zero12 : Array Value := #[.string ⟨#[]⟩, .string ⟨#[]⟩, .string ⟨#[]⟩, .string ⟨#[]⟩, .string ⟨#[]⟩, .string ⟨#[]⟩, .string ⟨#[]⟩, .string ⟨#[]⟩, .string ⟨#[]⟩, .string ⟨#[]⟩, .string ⟨#[]⟩, .string ⟨#[]⟩]
/-- The blocks that write works on: the record, its answer, the fields. -/
def WrAt (w : World) (box cs : Array Value) (W : World) : Prop :=
  W.heap[w.heap.size]? = some (.cells box 24 (0, 0)) ∧ W.heap[w.heap.size + 1]? = some (.cells zero12 57 (0, 0)) ∧ W.heap[w.heap.size + 1 + 1]? = some (.cells cs 57 (0, 0)) ∧ Below w.heap.size w W
theorem WrAt.below {w W W' : World} {box cs : Array Value} (h : WrAt w box cs W) (hb : Below W.heap.size W W') : WrAt w box cs W' := by
  obtain ⟨h1, h2, h3, h4⟩ := h
  exact ⟨by rw [hb.block _ (lt_block h1)]; exact h1, by rw [hb.block _ (lt_block h2)]; exact h2, by rw [hb.block _ (lt_block h3)]; exact h3, h4.trans (hb.mono h4.size)⟩
theorem WrAt.drew {w W : World} {box cs : Array Value} (h : WrAt w box cs W) (n : Nat) : WrAt w box cs (W.drewN n) := h.below (below_drewN (Below.refl _ _) n)
theorem WrAt.set {w W : World} {box cs : Array Value} (h : WrAt w box cs W) (i : Nat) (v : Value) : WrAt w box (cs.setIfInBounds i v) (W.setCell ⟨w.heap.size + 1 + 1, i, none⟩ v) := by
  obtain ⟨h1, h2, h3, h4⟩ := h
  refine ⟨?_, ?_, heap_setCell_same W _ i cs 57 v h3, ?_⟩
  · rw [Below.heap_setCell W _ v _ (by show ¬ _ = w.heap.size + 1 + 1; omega)]; exact h1
  · rw [Below.heap_setCell W _ v _ (by show ¬ _ = w.heap.size + 1 + 1; omega)]; exact h2
  · exact h4.setCell (by show w.heap.size ≤ w.heap.size + 1 + 1; omega) _
theorem WrAt.cell {w W : World} {box cs : Array Value} (h : WrAt w box cs W) {i : Nat} {u : Value} (hi : cs[i]? = some u) : W.cell? ⟨w.heap.size + 1 + 1, i, none⟩ = some u := by rw [Lib.cell_of_heap h.2.2.1]; exact hi
theorem WrAt.box {w W : World} {box cs : Array Value} (h : WrAt w box cs W) {i : Nat} {u : Value} (hi : box[i]? = some u) : W.cell? ⟨w.heap.size, i, none⟩ = some u := by rw [Lib.cell_of_heap h.1]; exact hi
theorem WrAt.cell2 {w W : World} {box cs : Array Value} (h : WrAt w box cs W) {i : Nat} {u : Value} (hi : zero12[i]? = some u) : W.cell? ⟨w.heap.size + 1, i, none⟩ = some u := by rw [Lib.cell_of_heap h.2.1]; exact hi
theorem WrAt.free2 {w W : World} {box cs : Array Value} (h : WrAt w box cs W) (i : Nat) : W.frozen? ⟨w.heap.size + 1, i, none⟩ = false := frozen_of_row W _ i zero12 57 h.2.1
theorem WrAt.free {w W : World} {box cs : Array Value} (h : WrAt w box cs W) (i : Nat) : W.frozen? ⟨w.heap.size + 1 + 1, i, none⟩ = false := frozen_of_row W _ i cs 57 h.2.2.1

set_option maxRecDepth 20000 in
set_option maxHeartbeats 2000000 in
theorem write_calls (v : RV) (l : List Rn) (w : World) (h : RecOk w v l) (hs : Std w) :
    Calls Tryz.prog 29 #[v.val] w fun e w' => ∃ f : FV, e = .returned f.val ∧ f.L = twelveF (v.R l) ∧ Below w.heap.size w w' := by
  obtain ⟨nm, m, rf, p, ao, len, cap, b, q, s⟩ := v
  have hres : Tryz.f29.results = #[.cell 2 57] := by kernel_rfl
  cases m with
  | false =>
    simp only [RV.val]
    go_enter Tryz.func29, Tryz.ntmps29
    go_wp2
    refine bodyPost_ret (v := .agg #[.string nm, .string ⟨#[52]⟩, .string ⟨#[42]⟩, .string ⟨#[48]⟩, .string ⟨#[48]⟩, .string ⟨#[42]⟩, .string ⟨#[42]⟩, .string ⟨#[48]⟩, .string ⟨#[48]⟩, .string b, .string q, .string ⟨#[]⟩]) ?_ rfl ⟨⟨nm, ⟨#[52]⟩, ⟨#[42]⟩, ⟨#[48]⟩, ⟨#[48]⟩, ⟨#[42]⟩, ⟨#[42]⟩, ⟨#[48]⟩, ⟨#[48]⟩, b, q, ⟨#[]⟩⟩, rfl, rfl, ?_⟩
    · simp only [results, hres]
      go_simp
    · exact (((Below.refl _ w).alloc (Nat.le_refl _) _).alloc (by simp) _).alloc (by simp; omega) _
  | true =>
    have hp : fitI p := h.pos
    have HI : Hid (∀ W, Below w.heap.size w W → Calls Tryz.prog 56 #[.int .i64 p] W fun e w' => e = .returned (.string ⟨(Lib.itoa p).toArray⟩) ∧ Below W.heap.size W w') := fun W hW => itoa_calls p W h.pos (hs.below hW)
    have HI2 : Hid (∀ W, Below w.heap.size w W → Calls Tryz.prog 56 #[.int .i64 s] W fun e w' => e = .returned (.string ⟨(Lib.itoa s).toArray⟩) ∧ Below W.heap.size W w') := fun W hW => itoa_calls s W h.score (hs.below hW)
    have HPr : Hid (∀ W, Below w.heap.size w W → Calls Tryz.prog 57 #[.slice ao len cap] W fun e w' => TextPost (textA l) W e w') := fun W hW => print_calls ao len cap l W (h.runs.below hW) (hs.tab.below hW)
    have HSF : Hid (fitI s) := h.score
    clear h hs hp
    simp only [RV.val]
    go_enter Tryz.func29, Tryz.ntmps29
    go_wp2
    generalize hwx : (((w.alloc (.cells #[.string nm, .bool true, .string rf, .int .i64 p, .slice ao len cap, .string b, .string q, .int .i64 s] 24)).alloc (.cells #[.string ⟨#[]⟩, .string ⟨#[]⟩, .string ⟨#[]⟩, .string ⟨#[]⟩, .string ⟨#[]⟩, .string ⟨#[]⟩, .string ⟨#[]⟩, .string ⟨#[]⟩, .string ⟨#[]⟩, .string ⟨#[]⟩, .string ⟨#[]⟩, .string ⟨#[]⟩] 57)).alloc (.cells #[.string nm, .string ⟨#[52]⟩, .string ⟨#[42]⟩, .string ⟨#[48]⟩, .string ⟨#[48]⟩, .string ⟨#[42]⟩, .string ⟨#[42]⟩, .string ⟨#[48]⟩, .string ⟨#[48]⟩, .string b, .string q, .string ⟨#[]⟩] 57)) = wx
    have HX : Hid (WrAt w #[.string nm, .bool true, .string rf, .int .i64 p, .slice ao len cap, .string b, .string q, .int .i64 s] #[.string nm, .string ⟨#[52]⟩, .string ⟨#[42]⟩, .string ⟨#[48]⟩, .string ⟨#[48]⟩, .string ⟨#[42]⟩, .string ⟨#[42]⟩, .string ⟨#[48]⟩, .string ⟨#[48]⟩, .string b, .string q, .string ⟨#[]⟩] wx) := by
      subst hwx
      obtain ⟨h1, h2, h3, h4⟩ := alloc3_heap w (.cells #[.string nm, .bool true, .string rf, .int .i64 p, .slice ao len cap, .string b, .string q, .int .i64 s] 24) (.cells #[.string ⟨#[]⟩, .string ⟨#[]⟩, .string ⟨#[]⟩, .string ⟨#[]⟩, .string ⟨#[]⟩, .string ⟨#[]⟩, .string ⟨#[]⟩, .string ⟨#[]⟩, .string ⟨#[]⟩, .string ⟨#[]⟩, .string ⟨#[]⟩, .string ⟨#[]⟩] 57) (.cells #[.string nm, .string ⟨#[52]⟩, .string ⟨#[42]⟩, .string ⟨#[48]⟩, .string ⟨#[48]⟩, .string ⟨#[42]⟩, .string ⟨#[42]⟩, .string ⟨#[48]⟩, .string ⟨#[48]⟩, .string b, .string q, .string ⟨#[]⟩] 57)
      exact ⟨h1, h2, h3, h4⟩
    clear hwx
    generalize hit : (⟨(Lib.itoa p).toArray⟩ : ByteArray) = tp at *
    go_cut [] (fun wc => WrAt w #[.string nm, .bool true, .string rf, .int .i64 p, .slice ao len cap, .string b, .string q, .int .i64 s] #[.string nm, .string ⟨#[48]⟩, .string rf, .string tp, .string ⟨#[50, 53, 53]⟩, .string ⟨#[42]⟩, .string ⟨#[42]⟩, .string ⟨#[48]⟩, .string ⟨#[48]⟩, .string b, .string q, .string ⟨#[]⟩] wc)
    case first =>
      have hc2 := HX.out.box (i := 2) rfl
      have hc3 := HX.out.box (i := 3) rfl
      have HXd : Hid (WrAt w #[.string nm, .bool true, .string rf, .int .i64 p, .slice ao len cap, .string b, .string q, .int .i64 s] #[.string nm, .string ⟨#[52]⟩, .string ⟨#[42]⟩, .string ⟨#[48]⟩, .string ⟨#[48]⟩, .string ⟨#[42]⟩, .string ⟨#[42]⟩, .string ⟨#[48]⟩, .string ⟨#[48]⟩, .string b, .string q, .string ⟨#[]⟩] wx.drew) := HX.out.drew 1
      go_region_with (go_at_call 56; refine (HI.out _ HXd.out.2.2.2).mono ?_; rintro e w1 ⟨rfl, hb1⟩; have HK : Hid (WrAt w _ _ w1) := HXd.out.below hb1; clear hb1; have k2 := HK.out.box (i := 2) rfl; have d1 := HK.out.cell (i := 1) rfl; have d2 := HK.out.cell (i := 2) rfl; have d3 := HK.out.cell (i := 3) rfl; have d4 := HK.out.cell (i := 4) rfl; have f1 := HK.out.free 1; have f2 := HK.out.free 2; have f3 := HK.out.free 3; have f4 := HK.out.free 4)
      all_goals (go_wp2; go_meet; exact (((HK.out.set 1 _).set 2 _).set 3 _).set 4 _)
    case rest =>
      have HC : Hid (WrAt w _ _ wc) := hcut
      have hc4 := hcut.box (i := 4) rfl
      have HT : Hid (tp.data.toList = Lib.itoa p) := by show _ = _; rw [← hit, mk_list]
      clear HX HI hcut hit
      go_wp2_with fail
      refine (HPr.out _ HC.out.2.2.2).mono ?_
      rintro e w2 ⟨t, rfl, ht, hb2⟩
      have HK2 : Hid (WrAt w _ _ w2) := HC.out.below hb2
      have HTx : Hid (t.data.toList = (textA l).1) := ht
      have g5 := HK2.out.cell (i := 5) rfl
      have g5f := HK2.out.free 5
      have g7 := HK2.out.box (i := 7) rfl
      generalize (textA l).2 = z2 at *
      clear hb2 HC HPr ht hc4
      go_wp2_with fail
      refine (HI2.out _ (HK2.out.set 5 _).2.2.2).mono ?_
      rintro e w3 ⟨rfl, hb3⟩
      have HK3 : Hid (WrAt w _ _ w3) := (HK2.out.set 5 _).below hb3
      clear hb3 HI2 HK2 g5 g5f g7
      have hsl : (Lib.itoa s).length ≤ 21 := Lib.itoa_length_le s HSF.out.1 HSF.out.2
      obtain ⟨ts, hts⟩ : ∃ ts : ByteArray, (⟨(Lib.itoa s).toArray⟩ : ByteArray) = ts := ⟨_, rfl⟩
      have HTs : Hid (ts.data.toList = Lib.itoa s) := by show _ = _; rw [← hts, mk_list]
      have htsz : ts.size ≤ 21 := by rw [← size_toList, HTs.out]; exact hsl
      rw [hts]
      clear hts hsl
      have d0 := HK3.out.cell (i := 0) rfl
      have d1 := HK3.out.cell (i := 1) rfl
      have d2 := HK3.out.cell (i := 2) rfl
      have d3 := HK3.out.cell (i := 3) rfl
      have d4 := HK3.out.cell (i := 4) rfl
      have d5 := HK3.out.cell (i := 5) rfl
      have d6 := HK3.out.cell (i := 6) rfl
      have d7 := HK3.out.cell (i := 7) rfl
      have d8 := HK3.out.cell (i := 8) rfl
      have d9 := HK3.out.cell (i := 9) rfl
      have d10 := HK3.out.cell (i := 10) rfl
      have d11 := HK3.out.cell (i := 11) rfl
      have e0 := HK3.out.cell2 (i := 0) rfl
      have e1 := HK3.out.cell2 (i := 1) rfl
      have e2 := HK3.out.cell2 (i := 2) rfl
      have e3 := HK3.out.cell2 (i := 3) rfl
      have e4 := HK3.out.cell2 (i := 4) rfl
      have e5 := HK3.out.cell2 (i := 5) rfl
      have e6 := HK3.out.cell2 (i := 6) rfl
      have e7 := HK3.out.cell2 (i := 7) rfl
      have e8 := HK3.out.cell2 (i := 8) rfl
      have e9 := HK3.out.cell2 (i := 9) rfl
      have e10 := HK3.out.cell2 (i := 10) rfl
      have e11 := HK3.out.cell2 (i := 11) rfl
      have ef := HK3.out.free2
      have df := HK3.out.free
      go_wp2
      refine bodyPost_ret (v := .agg #[.string nm, .string ⟨#[48]⟩, .string rf, .string tp, .string ⟨#[50, 53, 53]⟩, .string t, .string ⟨#[42]⟩, .string ⟨#[48]⟩, .string ⟨#[48]⟩, .string b, .string q, .string (⟨#[65, 83, 58, 105, 58]⟩ ++ ts)]) ?_ rfl ⟨⟨nm, ⟨#[48]⟩, rf, tp, ⟨#[50, 53, 53]⟩, t, ⟨#[42]⟩, ⟨#[48]⟩, ⟨#[48]⟩, b, q, ⟨#[65, 83, 58, 105, 58]⟩ ++ ts⟩, rfl, ?_, ?_⟩
      · simp only [results, hres]
        go_simp
      · have hc : ((⟨#[65, 83, 58, 105, 58]⟩ : ByteArray) ++ ts).data.toList = scoreT s := by
          rw [scoreT, ← HTs.out]; simp
        show [nm.data.toList, [48], rf.data.toList, tp.data.toList, [50, 53, 53], t.data.toList, [42], [48], [48], b.data.toList, q.data.toList, _] = _
        rw [hc, HT.out, HTx.out]
        rfl
      · have hg1 : w.heap.size ≤ w.heap.size + 1 := by omega
        have hg2 : w.heap.size ≤ w.heap.size + 1 + 1 := by omega
        exact (((((((((((((HK3.out.2.2.2.setCell hg2 _).setCell hg1 _).setCell hg1 _).setCell hg1 _).setCell hg1 _).setCell hg1 _).setCell hg1 _).setCell hg1 _).setCell hg1 _).setCell hg1 _).setCell hg1 _).setCell hg1 _).setCell hg1 _)
end Go.Proofs.YtdhphipdpjhhbaaGreatDoor
