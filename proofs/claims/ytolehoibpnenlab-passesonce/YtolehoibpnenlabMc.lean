/-
  The numbers of definitions: Values. Places of definitions: arePlaces. Whether all places of a scheme are some: arePlaces.
-/
import Derived.Deep.RegionHeld3
import Derived.Deep.LoopGhost
import Derived.ArgAppend
import Derived.Test.YtolehoibpnenlabProg
import Derived.BigQuiet
import Derived.Deep.QuietTactic
import Derived.Recover
import Derived.Deep.RegionLaw
import Derived.BigRegion
import Derived.Lib.Bytealg
import GoSem.Claim
import Derived.WalkKit
import Derived.WalkSmall
import Derived.Deep.RegionWith
import Derived.Test.YtolehoibpnenlabMa
import Derived.Test.YtolehoibpnenlabMb
import Derived.Test.YtolehoibpnenlabCkN
import Derived.Test.YtolehoibpnenlabVlA
namespace Go.Proofs.Ytolehoibpnenlab
open Go.RowKit Go.Deep Go.Maps
/-- Definitions that can be read in a world. -/
structure DfsAt (w : World) (ao : Option Addr) (n : Nat) (l : List Df) : Prop where
  length : l.length = n
  short : n ≤ maxLen
  fits : ∀ d ∈ l, InR d.num
  cells : 0 < n → ∃ g off, ao = some ⟨g, off, none⟩ ∧ ∀ (i : Nat) (d : Df), l[i]? = some d → w.cell? ⟨g, off + i * 4, none⟩ = some (.int .i64 d.op) ∧ w.cell? ⟨g, off + i * 4 + 1, none⟩ = some (.int .i64 d.num) ∧ w.cell? ⟨g, off + i * 4 + 2, none⟩ = some (.int .i64 d.a) ∧ w.cell? ⟨g, off + i * 4 + 3, none⟩ = some (.int .i64 d.b)
theorem DfsAt.below {w w' : World} {ao : Option Addr} {n : Nat} {l : List Df} (h : DfsAt w ao n l) (hb : Below w.heap.size w w') : DfsAt w' ao n l := by
  refine ⟨h.length, h.short, h.fits, fun h0 => ?_⟩
  obtain ⟨g, off, e, hc⟩ := h.cells h0
  refine ⟨g, off, e, fun i d hi => ?_⟩
  obtain ⟨h1, h2, h3, h4⟩ := hc i d hi
  exact ⟨by rw [hb.cell (World.block_lt_of_cell? w _ h1)]; exact h1, by rw [hb.cell (World.block_lt_of_cell? w _ h2)]; exact h2, by rw [hb.cell (World.block_lt_of_cell? w _ h3)]; exact h3, by rw [hb.cell (World.block_lt_of_cell? w _ h4)]; exact h4⟩
theorem DfsAt.nil (w : World) (ao : Option Addr) : DfsAt w ao 0 [] := ⟨rfl, Nat.zero_le _, fun d hd => by simp at hd, fun h => absurd h (by decide)⟩
def ValPost (r : List Int × Int) (w : World) (e : Ending) (w' : World) : Prop :=
  ∃ ao cap, e = .returned (.tuple #[.slice ao r.1.length cap, .int .i64 r.2]) ∧ w'.ownsRow w.heap.size 3 1 (.slice ao r.1.length cap) r.1.length (itRow r.1) ∧ Below w.heap.size w w'
theorem defB_in {d : Df} {n : Nat} (h : defB d n = true) (hn : InR d.num) : DfIn d n := by
  unfold defB at h
  split at h
  · exact ⟨hn, fun h1 => by omega, fun h1 => by omega⟩
  · split at h
    · simp only [Bool.and_eq_true, aheadB, decide_eq_true_eq] at h
      exact ⟨hn, fun _ _ => h.2.1, fun h1 => by omega⟩
    · split at h
      · simp only [Bool.and_eq_true, aheadB, decide_eq_true_eq] at h
        exact ⟨hn, fun _ _ => h.2.1, fun _ _ => h.2.2⟩
      · cases h
theorem own_isI' {w : World} {base : Nat} {vo : Option Addr} {i vc : Nat} {vs : List Int} (h : w.ownsRow base 3 1 (.slice vo i vc) i (itRow vs)) (hl : vs.length = i) : IsI w vo vs := by
  subst hl
  obtain ⟨ao, cap, e, hI⟩ := own_isI h
  cases e
  exact hI
theorem dropD {α : Type} {l : List α} {i : Nat} {d : α} (h : l[i]? = some d) : l.drop i = d :: l.drop (i + 1) := by
  obtain ⟨h1, h2⟩ := List.getElem?_eq_some_iff.1 h
  rw [List.drop_eq_getElem_cons h1, h2]
theorem none_row (w : World) (base : Nat) (e : TypeId) (size : Nat) : w.ownsRow base e size (.slice none 0 0) 0 [] := ⟨by simp, .inl ⟨rfl, rfl⟩⟩
set_option maxRecDepth 20000 in
set_option maxHeartbeats 1000000 in
theorem values_calls (l : List Df) (ao : Option Addr) (n cc : Nat) (w : World) (h : DfsAt w ao n l) :
    Calls Try.prog 23 #[.slice ao n cc] w fun e w' => ValPost (valsB l) w e w' := by
  have hns := h.short
  unfold maxLen at hns
  have hlen := h.length
  by_cases hbig : 5004 < n
  · have HX : Hid (valsB l = ([], 2)) := by show valsB l = _; unfold valsB; rw [if_pos (by omega)]
    clear h hlen
    go_enter Try.func23, Try.ntmps23
    go_wp2
    go_ret2
    show ValPost _ _ _ _
    rw [HX.out]
    exact ⟨none, 0, rfl, none_row _ _ _ _, Below.refl _ _⟩
  · have hd : decide ((5004 : Int) < (n : Int)) = false := by simp; omega
    obtain ⟨R, hR⟩ : ∃ R, valF l [] = R := ⟨_, rfl⟩
    have HX : Hid (valsB l = valE R) := by show valsB l = _; rw [valsB_eq (by omega), hR]
    have HR : Hid (valF (l.drop 0) [] = R) := by rw [List.drop_zero]; exact hR
    have HD : Hid (DfsAt w ao n l) := h
    clear hR h hlen
    obtain ⟨i0, hi, hz0, hz1, hz2⟩ := info_parts info3
    go_enter Try.func23, Try.ntmps23
    go_wp2_with (at_make; refine wpList_make_own _ rfl _ _ 23 rfl w.heap.size 3 i0 _ 1 Try.underlying23 hi hz0 hz1 .i64 .i64 _ n rfl rfl rfl (by rw [hz2]; omega) (by unfold maxLen; omega) (Nat.le_refl _) ?_; intro w2 hr hg)
    have HO : Hid (w2.ownsRow w.heap.size 3 1 (.slice (some ⟨w.heap.size, 0, none⟩) 0 n) 0 [] ∧ Below w.heap.size w w2) := ⟨hr, (Below.refl _ _).grown hg (Nat.le_refl _) (by intro k hk; cases hk)⟩
    clear hr hg
    go_loopg [17, 4] n (fun k iv kv wr => ∃ (vs : List Int) (vo : Option Addr) (vc i : Nat), iv = .int .i64 (i : Int) ∧ kv = .slice vo i vc ∧ i + k = n ∧ Hid (valF (l.drop i) vs = R ∧ vs.length = i ∧ (∀ v ∈ vs, -144115188075855872 ≤ v ∧ v ≤ 144115188075855872) ∧ wr.ownsRow w.heap.size 3 1 (.slice vo i vc) i (itRow vs) ∧ Below w.heap.size w wr))
    case atStart => exact ⟨[], _, n, 0, rfl, rfl, by omega, HR.out, rfl, fun v hv => by simp at hv, HO.out.1, HO.out.2⟩
    case round =>
      clear HO HR
      obtain ⟨vs, vo, vc, i, rfl, rfl, hik, HT⟩ := hrel
      by_cases hin : i < n
      · obtain ⟨d, hdi⟩ : ∃ d, l[i]? = some d := ⟨l[i]'(by rw [HD.out.length]; exact hin), List.getElem?_eq_getElem _⟩
        obtain ⟨g, off, hao, hcs⟩ := HD.out.cells (by omega)
        subst hao
        obtain ⟨b0, b1, b2, b3⟩ := hcs i d hdi
        obtain ⟨t1, t2, t3, t4, t5⟩ := HT.out
        rw [dropD hdi] at t1
        have HDr : Hid (l.drop i = d :: l.drop (i + 1)) := dropD hdi
        have hdn := HD.out.fits d (List.mem_of_getElem? hdi)
        have x0 : wr.cell? ⟨g, off + i * 4, none⟩ = some (.int .i64 d.op) := by rw [t5.cell (World.block_lt_of_cell? w _ b0)]; exact b0
        have x1 : wr.cell? ⟨g, off + i * 4 + 1, none⟩ = some (.int .i64 d.num) := by rw [t5.cell (World.block_lt_of_cell? w _ b1)]; exact b1
        have x2 : wr.cell? ⟨g, off + i * 4 + 2, none⟩ = some (.int .i64 d.a) := by rw [t5.cell (World.block_lt_of_cell? w _ b2)]; exact b2
        have x3 : wr.cell? ⟨g, off + i * 4 + 3, none⟩ = some (.int .i64 d.b) := by rw [t5.cell (World.block_lt_of_cell? w _ b3)]; exact b3
        have hC1 := isDef_calls d (i : Int) (wr.alloc (.cells #[.int .i64 d.op, .int .i64 d.num, .int .i64 d.a, .int .i64 d.b] 34))
        unfold dfV at hC1
        clear hcs b0 b1 b2 b3 hdi
        cases hdb : defB d i with
        | false =>
          have HY : Hid (R = .error 1) := by rw [← t1]; exact valF_bad (by rw [t2]; exact hdb)
          rw [hdb] at hC1
          have HC1 : Hid (Calls Try.prog 42 #[.agg #[.int .i64 d.op, .int .i64 d.num, .int .i64 d.a, .int .i64 d.b], .int .i64 (i : Int)] (wr.alloc (.cells #[.int .i64 d.op, .int .i64 d.num, .int .i64 d.a, .int .i64 d.b] 34)) fun e w' => e = .returned (.bool false) ∧ Below (wr.alloc (.cells #[.int .i64 d.op, .int .i64 d.num, .int .i64 d.a, .int .i64 d.b] 34)).heap.size (wr.alloc (.cells #[.int .i64 d.op, .int .i64 d.num, .int .i64 d.a, .int .i64 d.b] 34)) w') := hC1
          have HB : Hid (Below w.heap.size w wr) := t5
          clear hC1 hdb t1 t2 t3 t4 t5 HT hdn
          go_wp2_with fail
          refine (HC1.out).mono ?_
          rintro e w3 ⟨rfl, hb3⟩
          have HB3 : Hid (Below w.heap.size w w3) := HB.out.trans ((below_box' hb3).mono HB.out.size)
          clear hb3
          go_wp2
          go_ret2
          show ValPost _ _ _ _
          rw [HX.out, HY.out]
          exact ⟨none, 0, rfl, none_row _ _ _ _, HB3.out⟩
        | true =>
          rw [hdb] at hC1
          have HC1 : Hid (Calls Try.prog 42 #[.agg #[.int .i64 d.op, .int .i64 d.num, .int .i64 d.a, .int .i64 d.b], .int .i64 (i : Int)] (wr.alloc (.cells #[.int .i64 d.op, .int .i64 d.num, .int .i64 d.a, .int .i64 d.b] 34)) fun e w' => e = .returned (.bool true) ∧ Below (wr.alloc (.cells #[.int .i64 d.op, .int .i64 d.num, .int .i64 d.a, .int .i64 d.b] 34)).heap.size (wr.alloc (.cells #[.int .i64 d.op, .int .i64 d.num, .int .i64 d.a, .int .i64 d.b] 34)) w') := hC1
          have HDI : Hid (DfIn d vs.length) := by show DfIn d _; rw [t2]; exact defB_in hdb hdn
          have HDB : Hid (defB d vs.length = true) := by rw [t2]; exact hdb
          clear hC1 hdb t1 t2 t3 t4 t5 hdn
          go_wp2_with fail
          refine (HC1.out).mono ?_
          rintro e w3 ⟨rfl, hb3⟩
          have hB3 := below_box' hb3
          have y0 : w3.cell? ⟨wr.heap.size, 0, none⟩ = some (.int .i64 d.op) := by rw [hb3.cell (by simp)]; exact blk (heap_alloc_new wr _) rfl
          have y1 : w3.cell? ⟨wr.heap.size, 1, none⟩ = some (.int .i64 d.num) := by rw [hb3.cell (by simp)]; exact blk (heap_alloc_new wr _) rfl
          have y2 : w3.cell? ⟨wr.heap.size, 2, none⟩ = some (.int .i64 d.a) := by rw [hb3.cell (by simp)]; exact blk (heap_alloc_new wr _) rfl
          have y3 : w3.cell? ⟨wr.heap.size, 3, none⟩ = some (.int .i64 d.b) := by rw [hb3.cell (by simp)]; exact blk (heap_alloc_new wr _) rfl
          have HT3 : Hid (valF (d :: l.drop (i + 1)) vs = R ∧ vs.length = i ∧ (∀ v ∈ vs, -144115188075855872 ≤ v ∧ v ≤ 144115188075855872) ∧ w3.ownsRow w.heap.size 3 1 (.slice vo i vc) i (itRow vs) ∧ Below w.heap.size w w3) := by
            obtain ⟨t1, t2, t3, t4, t5⟩ := HT.out
            rw [HDr.out] at t1
            exact ⟨t1, t2, t3, owned_below t4 hB3, t5.trans (hB3.mono t5.size)⟩
          have hC2 := worth_calls d vs vo vc w3 (own_isI' HT3.out.2.2.2.1 HT3.out.2.1) HT3.out.2.2.1 HDI.out
          rw [HT3.out.2.1] at hC2
          unfold dfV at hC2
          clear hb3 hB3 HT HC1 x0 x1 x2 x3
          have HC2 : Hid (Calls Try.prog 43 #[.agg #[.int .i64 d.op, .int .i64 d.num, .int .i64 d.a, .int .i64 d.b], .slice vo i vc] w3 (WPost (rawB vs d) w3)) := hC2
          clear hC2
          go_wp2_with fail
          refine (HC2.out).mono ?_
          intro e w4 hp
          obtain ⟨v, he, hv, hb4⟩ := wpost_parts hp
          subst he
          clear hp
          cases hm : inB maxV (rawB vs d) with
          | false =>
            have HY : Hid (R = .error 93) := by rw [← HT3.out.1]; exact valF_far HDB.out hm
            have HB4 : Hid (Below w.heap.size w w4) := HT3.out.2.2.2.2.trans (hb4.mono HT3.out.2.2.2.2.size)
            clear hb4 hv hm HT3 y0 y1 y2 y3
            go_wp2
            go_ret2
            show ValPost _ _ _ _
            rw [HX.out, HY.out]
            exact ⟨none, 0, rfl, none_row _ _ _ _, HB4.out⟩
          | true =>
            have hv2 := hv hm
            subst hv2
            have HT4 : Hid (valF (l.drop (i + 1)) (vs ++ [rawB vs d]) = R ∧ vs.length = i ∧ (∀ v ∈ vs ++ [rawB vs d], -144115188075855872 ≤ v ∧ v ≤ 144115188075855872) ∧ (w4.alloc (.cells #[.int .i64 (rawB vs d)] 3)).ownsRow w.heap.size 3 1 (.slice vo i vc) i (itRow vs) ∧ Below w.heap.size w (w4.alloc (.cells #[.int .i64 (rawB vs d)] 3))) := by
              obtain ⟨t1, t2, t3, t4, t5⟩ := HT3.out
              have hb5 : Below w3.heap.size w3 (w4.alloc (.cells #[.int .i64 (rawB vs d)] 3)) := hb4.alloc hb4.size _
              refine ⟨by rw [← t1]; exact (valF_ok HDB.out hm).symm, t2, fun u hu => ?_, owned_below t4 hb5, t5.trans (hb5.mono t5.size)⟩
              rcases List.mem_append.1 hu with h1 | h1
              · exact t3 u h1
              · rw [List.mem_singleton.1 h1]; exact (inB_iff _ _).1 hm
            generalize rawB vs d = r at *
            clear hb4 hv hm HT3 y0 y1 y2 y3 HC2 HDI HDB
            go_wp2_with (at_builtin; refine wpList_append_own _ rfl _ _ 23 rfl w.heap.size 3 i0 _ 1 8 Try.underlying23 hi hz0 hz1 hz2 rfl (by decide) (.slice vo i vc) i (itRow vs) rfl HT4.out.2.2.2.1 ⟨w4.heap.size, 0, none⟩ 1 1 [.int .i64 r] rfl rfl (it_new w4 r) (it_one r) (by unfold maxLen; omega) (by omega) HT4.out.2.2.2.2.size ?_)
            intro v' w5 ho hg _
            obtain ⟨vo5, vc5, rfl⟩ := owned_shape ho
            have HN : Hid (w5.ownsRow w.heap.size 3 1 (.slice vo5 (i + 1) vc5) (i + 1) (itRow (vs ++ [r])) ∧ Below w.heap.size w w5) := by
              refine ⟨by rw [itRow_snoc]; exact ho, HT4.out.2.2.2.2.grown hg HT4.out.2.2.2.2.size (fun k hk => ?_)⟩
              rcases HT4.out.2.2.2.1.2 with ⟨e, _⟩ | ⟨q, cap, cur, e, hq, _⟩
              · cases e; cases hk
              · cases e; cases hk; exact hq
            clear ho hg
            go_wp2_with fail
            go_roundg (gk - 1)
            case measure => omega
            case rel => exact ⟨vs ++ [r], vo5, vc5, i + 1, by go_num, rfl, by omega, HT4.out.1, by rw [List.length_append, HT4.out.2.1]; rfl, HT4.out.2.2.1, HN.out.1, HN.out.2⟩
      · have hin2 : i = n := by omega
        subst hin2
        have HY : Hid (R = .ok vs ∧ vs.length = i ∧ wr.ownsRow w.heap.size 3 1 (.slice vo i vc) i (itRow vs) ∧ Below w.heap.size w wr) := by
          obtain ⟨t1, t2, t3, t4, t5⟩ := HT.out
          rw [List.drop_eq_nil_of_le (by rw [HD.out.length]; omega)] at t1
          exact ⟨t1.symm, t2, t4, t5⟩
        clear HT
        go_wp2
        go_ret2
        show ValPost _ _ _ _
        rw [HX.out, HY.out.1]
        have e : vs.length = i := HY.out.2.1
        exact ⟨vo, vc, by show _ = Ending.returned (.tuple #[.slice vo vs.length vc, .int .i64 0]); rw [e]; rfl, by show wr.ownsRow _ _ _ (.slice vo vs.length vc) vs.length _; rw [e]; exact HY.out.2.2.1, HY.out.2.2.2⟩
end Go.Proofs.Ytolehoibpnenlab
namespace Go.Proofs.Ytolehoibpnenlab
open Go.RowKit Go.Deep Go.Maps
/-- Numbers that can be read in a world. -/
structure IntA (w : World) (ao : Option Addr) (n : Nat) (l : List Int) : Prop where
  length : l.length = n
  short : n ≤ maxLen
  isI : IsI w ao l
theorem IntA.below {w w' : World} {ao : Option Addr} {n : Nat} {l : List Int} (h : IntA w ao n l) (hb : Below w.heap.size w w') : IntA w' ao n l := ⟨h.length, h.short, h.isI.below hb⟩
theorem intA_new {W : World} {l : List Int} {g : Nat} (hg : g = W.heap.size) (hs : l.length ≤ maxLen) : IntA (W.alloc (.cells (itRow l).toArray 3)) (some ⟨g, 0, none⟩) l.length l := by
  subst hg
  refine ⟨rfl, hs, fun i v hi => ⟨_, 0, rfl, ?_⟩⟩
  rw [Nat.zero_add]
  exact blk (heap_alloc_new W _) (by simp [itRow, hi])
theorem intA_own {w : World} {base : Nat} {vo : Option Addr} {n vc : Nat} {vs : List Int} (h : w.ownsRow base 3 1 (.slice vo n vc) n (itRow vs)) (hl : vs.length = n) (hs : n ≤ maxLen) : IntA w vo n vs := ⟨hl, hs, own_isI' h hl⟩
end Go.Proofs.Ytolehoibpnenlab
namespace Go.Proofs.Ytolehoibpnenlab
open Go.RowKit Go.Deep Go.Maps
/-- Pieces that can be read in a world. -/
structure PcsAt (w : World) (ao : Option Addr) (n : Nat) (l : List (Int × Int)) : Prop where
  length : l.length = n
  short : n ≤ maxLen
  cells : 0 < n → ∃ g off, ao = some ⟨g, off, none⟩ ∧ ∀ (i : Nat) (p : Int × Int), l[i]? = some p → w.cell? ⟨g, off + i * 2, none⟩ = some (.int .i64 p.1) ∧ w.cell? ⟨g, off + i * 2 + 1, none⟩ = some (.int .i64 p.2)
theorem PcsAt.below {w w' : World} {ao : Option Addr} {n : Nat} {l : List (Int × Int)} (h : PcsAt w ao n l) (hb : Below w.heap.size w w') : PcsAt w' ao n l := by
  refine ⟨h.length, h.short, fun h0 => ?_⟩
  obtain ⟨g, off, e, hc⟩ := h.cells h0
  refine ⟨g, off, e, fun i q hi => ?_⟩
  obtain ⟨h1, h2⟩ := hc i q hi
  exact ⟨by rw [hb.cell (World.block_lt_of_cell? w _ h1)]; exact h1, by rw [hb.cell (World.block_lt_of_cell? w _ h2)]; exact h2⟩
theorem two_intA (W : World) (a b : Int) (g : Nat) (hg : g = W.heap.size) : IntA (W.alloc (.cells #[.int .i64 a, .int .i64 b] 3)) (some ⟨g, 0, none⟩) 2 [a, b] := intA_new (l := [a, b]) hg (by unfold maxLen; simp)
theorem one_intA (W : World) (a : Int) (g : Nat) (hg : g = W.heap.size) : IntA (W.alloc (.cells #[.int .i64 a] 3)) (some ⟨g, 0, none⟩) 1 [a] := intA_new (l := [a]) hg (by unfold maxLen; simp)
end Go.Proofs.Ytolehoibpnenlab
