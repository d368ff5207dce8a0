/-
  The edges that stay where a state goes.
-/
import Derived.BigQuiet
import Derived.Test.YtolehoibpnenlabMe
import Derived.Test.YtolehoibpnenlabPoB
namespace Go.Proofs.Ytolehoibpnenlab
open Go.RowKit Go.Deep Go.Maps

set_option maxRecDepth 20000 in
set_option maxHeartbeats 1000000 in
theorem gone99_calls (a b gone : Int) (cb : Nat) (w : World) (h : w.cell? ⟨cb, 0, none⟩ = some (.int .i64 gone)) :
    Calls Try.prog 76 #[.agg #[.int .i64 a, .int .i64 b], .pointer (some ⟨cb, 0, none⟩)] w fun r w' => r = .returned (.bool (a == gone)) ∧ Below w.heap.size w w' := by
  have hc : (w.alloc (.cells #[.int .i64 a, .int .i64 b] 42)).cell? ⟨cb, 0, none⟩ = some (.int .i64 gone) := by
    rw [((Below.refl w.heap.size w).alloc (Nat.le_refl _) _).cell (World.block_lt_of_cell? w _ h)]; exact h
  have HB : Hid (Below w.heap.size w (w.alloc (.cells #[.int .i64 a, .int .i64 b] 42))) := (Below.refl _ _).alloc (Nat.le_refl _) _
  clear h
  go_enter Try.func76, Try.ntmps76
  go_wp2
  go_ret
  exact ⟨rfl, HB.out⟩
theorem pcRow_first {l : List (Int × Int)} {k : Nat} {e : Int × Int} (h : l[k]? = some e) (v : Int) : (pcRow l).set (k * 2) (.int .i64 v) = pcRow (l.set k (v, e.2)) := by
  have h1 := pcRow_put l k (v, e.2)
  have h2 := (pcRow_at h).2
  rw [← h1]
  have h3 : ((pcRow l).set (k * 2) (.int .i64 v))[k * 2 + 1]? = some (.int .i64 e.2) := by rw [List.getElem?_set_ne (by omega)]; exact h2
  obtain ⟨h4, h5⟩ := List.getElem?_eq_some_iff.1 h3
  simp only
  rw [← h5]
  exact (List.set_getElem_self h4).symm
def shE (g : Int) (e : Int × Int) : Int × Int := (if g < e.1 then e.1 - 1 else e.1, e.2)
theorem woE_parL (g : Int) (l : List (Int × Int)) : woE g l = parL (shE g) (l.filter fun e => !(e.1 == g)) (l.filter fun e => !(e.1 == g)).length := by
  rw [parL_all _ _ (Nat.le_refl _)]
  rfl
/-- The row, and the number beside it. -/
structure WoW (w : World) (base : Nat) (ao : Option Addr) (m cc : Nat) (gone : Int) (cur : List (Int × Int)) (wr : World) : Prop where
  row : wr.ownsRow base 42 2 (.slice ao m cc) m (pcRow cur)
  grown : w.grownBy wr (Value.slice ao m cc).ownBlock
  num : wr.heap[w.heap.size]? = some (.cells #[.int .i64 gone] 3 (0, 0))
theorem WoW.heap {w : World} {base : Nat} {ao : Option Addr} {m cc : Nat} {gone : Int} {cur : List (Int × Int)} {wr : World} (h : WoW w base ao m cc gone cur wr) (n : Nat) : WoW w base ao m cc gone cur (wr.drewN n) :=
  ⟨owned_heap h.row rfl, ⟨h.grown.os, h.grown.tape, h.grown.output, h.grown.size, h.grown.block⟩, h.num⟩
theorem WoW.put {w : World} {base g m cc : Nat} {gone : Int} {cur : List (Int × Int)} {wr : World} (h : WoW w base (some ⟨g, 0, none⟩) m cc gone cur wr) {k : Nat} {e : Int × Int} (he : cur[k]? = some e) (v : Int) (hg : g < w.heap.size) : WoW w base (some ⟨g, 0, none⟩) m cc gone (cur.set k (v, e.2)) (wr.setCell ⟨g, k * 2, none⟩ (.int .i64 v)) := by
  have hgr := grown_set wr g (k * 2) (.int .i64 v)
  refine ⟨?_, grown_trans h.grown hgr, ?_⟩
  · have h1 := own_set h.row (k * 2) (.int .i64 v)
    rwa [pcRow_first he] at h1
  · rw [hgr.block _ (lt_block h.num) (fun e => by injection e with e; omega)]
    exact h.num
set_option maxRecDepth 20000 in
set_option maxHeartbeats 4000000 in
theorem wo_calls (gone : Int) (l : List (Int × Int)) (base : Nat) (ao : Option Addr) (n cc : Nat) (w : World) (hl : l.length = n) (hs : n ≤ 100) (h : w.ownsRow base 42 2 (.slice ao n cc) n (pcRow l)) (hb : ∀ e ∈ l, -1 ≤ e.1 ∧ e.1 ≤ 100) :
    Calls Try.prog 57 #[.int .i64 gone, .slice ao n cc] w fun e w' => ∃ m : Nat, e = .returned (.slice ao m cc) ∧ m = (woE gone l).length ∧ w'.ownsRow base 42 2 (.slice ao m cc) m (pcRow (woE gone l)) ∧ w.grownBy w' (Value.slice ao n cc).ownBlock := by
  have hent : ∀ args W, (callFunc 76 args).run Try.prog W = .ok (.enter 76 args) W := enters_of Try.func76 (by kernel_rfl) rfl
  have hb0 : Below w.heap.size w (w.alloc (.cells #[.int .i64 gone] 3)) := (Below.refl _ _).alloc (Nat.le_refl _) _
  have hrow : ∀ k, (Value.slice ao n cc).ownBlock = some k → k < w.heap.size := fun k hk => (h.lt k hk).2
  have HD : Hid (Calls Try.prog 75 #[.slice ao n cc, .func (.func 76) #[] #[.pointer (some ⟨w.heap.size, 0, none⟩)]] (w.alloc (.cells #[.int .i64 gone] 3)) fun e w' => ∃ m : Nat, e = .returned (.slice ao m cc) ∧ m = (l.filter fun e => !(e.1 == gone)).length ∧ w'.ownsRow base 42 2 (.slice ao m cc) m (pcRow (l.filter fun e => !(e.1 == gone))) ∧ (w.alloc (.cells #[.int .i64 gone] 3)).grownBy w' (Value.slice ao n cc).ownBlock) :=
    delF_calls (fun e => e.1 == gone) 76 w.heap.size hent l base ao n cc _ hl hs (owned_below h hb0) fun e _ W hW => by
      refine gone99_calls e.1 e.2 gone w.heap.size W ?_
      refine blk (cs := #[.int .i64 gone]) (ty := 3) ?_ rfl
      rw [hW.block _ (by simp) (fun e => by have := hrow _ e.symm; omega)]
      exact heap_alloc_new w _
  have HO : Hid (w.ownsRow base 42 2 (.slice ao n cc) n (pcRow l) ∧ (∀ k, (Value.slice ao n cc).ownBlock = some k → k < w.heap.size) ∧ Below w.heap.size w (w.alloc (.cells #[.int .i64 gone] 3)) ∧ ∀ e ∈ l, -1 ≤ e.1 ∧ e.1 ≤ 100) := ⟨h, hrow, hb0, hb⟩
  obtain ⟨fl, hfl⟩ : ∃ fl, (l.filter fun e => !(e.1 == gone)) = fl := ⟨_, rfl⟩
  have HF : Hid (woE gone l = parL (shE gone) fl fl.length ∧ (∀ e ∈ fl, e ∈ l) ∧ fl.length ≤ n) := ⟨by rw [← hfl]; exact woE_parL gone l, fun e he => by rw [← hfl] at he; exact (List.mem_filter.1 he).1, by rw [← hfl, ← hl]; exact List.length_filter_le _ _⟩
  rw [hfl] at HD
  clear h hb0 hrow hb hfl hent
  go_enter Try.func57, Try.ntmps57
  go_wp2_with fail
  refine HD.out.mono ?_
  rintro e w2 ⟨m, rfl, hm, ho, hg⟩
  have hm100 : m ≤ 100 := by
    have h1 := HF.out.2.2
    omega
  have HQ0 : Hid (WoW w base ao m cc gone (parL (shE gone) fl 0) w2) := by
    rw [parL_zero]
    refine ⟨ho, grown_trans (grown_below HO.out.2.2.1) (by cases ao <;> exact hg), ?_⟩
    rw [hg.block _ (by simp) (fun e => by have := HO.out.2.1 _ e.symm; omega)]
    exact heap_alloc_new w _
  have HM : Hid (m = fl.length) := hm
  clear ho hg hm HD
  go_wp2
  go_loopg [5, 11] m (fun q _ iv wr => ∃ (k : Nat), k + q = m ∧ iv = .int .i64 k ∧ Hid (WoW w base ao m cc gone (parL (shE gone) fl k) wr))
  case atStart => exact ⟨0, by omega, rfl, HQ0.out⟩
  case round =>
    clear HQ0
    obtain ⟨k, hkq, rfl, HQ⟩ := hrel
    by_cases hlt : k < m
    · obtain ⟨e, he⟩ : ∃ e, fl[k]? = some e := ⟨fl[k]'(by rw [← HM.out]; exact hlt), List.getElem?_eq_getElem _⟩
      obtain ⟨g, hao, hgw⟩ : ∃ g, ao = some ⟨g, 0, none⟩ ∧ g < w.heap.size := by
        obtain ⟨g, cap, hv, _⟩ := owned_some HQ.out.row (by omega)
        injection hv with e1
        refine ⟨g, e1, HO.out.2.1 g ?_⟩
        rw [e1]; rfl
      subst hao
      have hbe := HO.out.2.2.2 e (HF.out.2.1 e (List.mem_of_getElem? he))
      have hge := parL_get (shE gone) fl k he
      have c0 := (owned_cells HQ.out.row _ _ (pcRow_at hge).1).1
      have ff : ∀ j, wr.frozen? ⟨g, j, none⟩ = false := fun j => (HQ.out.row).frozenAt j
      have cn : wr.cell? ⟨w.heap.size, 0, none⟩ = some (.int .i64 gone) := blk HQ.out.num rfl
      have hk0 : decide ((k : Int) < (m : Int)) = true := by simp; omega
      have hkd : (k : Int) < (m : Int) := by omega
      by_cases hgt : gone < e.1
      · have HN : Hid (∀ nq, WoW w base (some ⟨g, 0, none⟩) m cc gone (parL (shE gone) fl (k + 1)) ((wr.drewN nq).setCell ⟨g, k * 2, none⟩ (.int .i64 (e.1 - 1)))) := fun nq => by
          have h1 := (HQ.out.heap nq).put hge (e.1 - 1) hgw
          have h2 := parL_set (shE gone) fl k he
          rw [shE, if_pos hgt] at h2
          rwa [h2] at h1
        have hd : decide (gone < e.1) = true := by simpa using hgt
        clear HQ he hge
        go_wp2_with fail
        go_quiet (fail)
        go_wp2
        go_roundg (gk - 1)
        case measure => omega
        case rel => exact ⟨k + 1, by omega, by go_num, HN.out _⟩
      · have HN : Hid (∀ nq, WoW w base (some ⟨g, 0, none⟩) m cc gone (parL (shE gone) fl (k + 1)) (wr.drewN nq)) := fun nq => by
          rw [parL_same (shE gone) fl k he (by rw [shE, if_neg hgt])]
          exact HQ.out.heap nq
        have hd : decide (gone < e.1) = false := by simpa using hgt
        clear HQ he hge
        go_wp2_with fail
        go_quiet (fail)
        go_wp2
        go_roundg (gk - 1)
        case measure => omega
        case rel => exact ⟨k + 1, by omega, by go_num, HN.out _⟩
    · have hk0 : decide ((k : Int) < (m : Int)) = false := by simp; omega
      have HE : Hid (m = (woE gone l).length ∧ wr.ownsRow base 42 2 (.slice ao m cc) m (pcRow (woE gone l)) ∧ w.grownBy wr (Value.slice ao n cc).ownBlock) := by
        rw [HF.out.1, parL_len]
        refine ⟨HM.out, ?_, ?_⟩
        · rw [← HM.out, show m = k by omega]
          have := HQ.out.row
          rwa [show m = k by omega] at this
        · have := HQ.out.grown
          cases ao <;> exact this
      clear HQ
      go_wp2
      go_ret
      exact ⟨m, rfl, HE.out⟩
end Go.Proofs.Ytolehoibpnenlab
