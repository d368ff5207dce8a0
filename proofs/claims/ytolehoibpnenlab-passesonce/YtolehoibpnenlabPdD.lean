/-
  DeleteFunc over a row of edges: the walk.
-/
import Derived.Test.YtolehoibpnenlabPdC
namespace Go.Proofs.Ytolehoibpnenlab
open Go.RowKit Go.Deep Go.Maps

theorem zero49 : ∀ w, (zeroValue 42).run Try.prog w = .ok (.agg #[.int .i64 0, .int .i64 0]) w := fun w => by
  have h := Try.zeroValue42
  simp [h]
/-- The row as it is worked on. -/
structure DW (w : World) (base g n cc : Nat) (cur : List (Int × Int)) (wr : World) : Prop where
  row : wr.ownsRow base 42 2 (.slice (some ⟨g, 0, none⟩) n cc) n (pcRow cur)
  grown : w.grownBy wr (some g)
theorem DW.next {w : World} {base g n cc : Nat} {cur : List (Int × Int)} {wr w2 : World} (h : DW w base g n cc cur wr) (hb : Below wr.heap.size wr w2) : DW w base g n cc cur w2 :=
  ⟨owned_below h.row hb, grown_trans h.grown (grown_below hb)⟩
theorem DW.put {w : World} {base g n cc : Nat} {cur : List (Int × Int)} {wr : World} (h : DW w base g n cc cur wr) (i : Nat) (e : Int × Int) : DW w base g n cc (cur.set i e) ((wr.setCell ⟨g, i * 2, none⟩ (.int .i64 e.1)).setCell ⟨g, i * 2 + 1, none⟩ (.int .i64 e.2)) := by
  refine ⟨?_, grown_trans h.grown (grown_trans (grown_set _ _ _ _) (grown_set _ _ _ _))⟩
  have h1 := own_set (own_set h.row (i * 2) (.int .i64 e.1)) (i * 2 + 1) (.int .i64 e.2)
  rwa [pcRow_put] at h1
theorem DW.cell {w : World} {base g n cc : Nat} {cur : List (Int × Int)} {wr : World} (h : DW w base g n cc cur wr) {i : Nat} {e : Int × Int} (he : cur[i]? = some e) : wr.cell? ⟨g, i * 2, none⟩ = some (.int .i64 e.1) ∧ wr.cell? ⟨g, i * 2 + 1, none⟩ = some (.int .i64 e.2) ∧ (∀ j, wr.frozen? ⟨g, j, none⟩ = false) := by
  obtain ⟨h1, h2⟩ := pcRow_at he
  refine ⟨(owned_cells h.row _ _ h1).1, (owned_cells h.row _ _ h2).1, fun j => ?_⟩
  rcases h.row.2 with ⟨hv, _⟩ | ⟨g', cap', cur', hv, _, hg, _⟩
  · cases hv
  · cases hv; exact frozen_of_row wr g j _ _ hg
set_option maxRecDepth 20000 in
set_option maxHeartbeats 4000000 in
theorem delF_calls (p : Int × Int → Bool) (fid cb : Nat) (hent : ∀ args W, (callFunc fid args).run Try.prog W = .ok (.enter fid args) W) (l : List (Int × Int)) (base : Nat) (ao : Option Addr) (n cc : Nat) (w : World) (hl : l.length = n) (hs : n ≤ 100) (h : w.ownsRow base 42 2 (.slice ao n cc) n (pcRow l))
    (hC : ∀ e ∈ l, ∀ W, w.grownBy W (Value.slice ao n cc).ownBlock → Calls Try.prog fid #[.agg #[.int .i64 e.1, .int .i64 e.2], .pointer (some ⟨cb, 0, none⟩)] W fun r W' => r = .returned (.bool (p e)) ∧ Below W.heap.size W W') :
    Calls Try.prog 75 #[.slice ao n cc, .func (.func fid) #[] #[.pointer (some ⟨cb, 0, none⟩)]] w fun e w' => ∃ m : Nat, e = .returned (.slice ao m cc) ∧ m = (l.filter fun e => !p e).length ∧ w'.ownsRow base 42 2 (.slice ao m cc) m (pcRow (l.filter fun e => !p e)) ∧ w.grownBy w' (Value.slice ao n cc).ownBlock := by
  have hpc : PcsAt w ao n l := by
    rw [← hl] at h
    obtain ⟨a, c, e, hp⟩ := pcs_own h (by unfold maxLen; omega)
    injection e with e1
    rw [e1, ← hl]; exact hp
  have HI : Hid (Calls Try.prog 77 #[.slice ao n cc, .func (.func fid) #[] #[.pointer (some ⟨cb, 0, none⟩)]] w fun e w' => ∃ r : Int, e = .returned (.int .i64 r) ∧ IdxIs p l r ∧ Below w.heap.size w w') := idxF_calls p fid cb hent l ao n cc w hpc fun e he W hW => hC e he W (grown_below hW)
  have HC : Hid (∀ e ∈ l, ∀ W, w.grownBy W (Value.slice ao n cc).ownBlock → Calls Try.prog fid #[.agg #[.int .i64 e.1, .int .i64 e.2], .pointer (some ⟨cb, 0, none⟩)] W fun r W' => r = .returned (.bool (p e)) ∧ Below W.heap.size W W') := hC
  have HO : Hid (w.ownsRow base 42 2 (.slice ao n cc) n (pcRow l)) := h
  have HL : Hid (l.length = n) := hl
  clear h hC hpc hl
  go_enter Try.func75, Try.ntmps75
  go_wp2_with fail
  refine HI.out.mono ?_
  rintro e w1 ⟨r, rfl, hr, hb⟩
  clear HI
  rcases hr with ⟨rfl, hall⟩ | ⟨k, rfl, hkl, ⟨ek, hek, hpk⟩, hbf⟩
  · have HE : Hid ((l.filter fun e => !p e) = l ∧ Below w.heap.size w w1) := ⟨List.filter_eq_self.2 fun z hz => by rw [hall z hz]; rfl, hb⟩
    clear hall hb
    go_wp2
    go_ret
    refine ⟨n, rfl, by rw [HE.out.1]; exact HL.out.symm, ?_, grown_below HE.out.2⟩
    rw [HE.out.1]
    exact owned_below HO.out HE.out.2
  · have hkn : k < n := by rw [← HL.out]; exact hkl
    obtain ⟨g, hao, hbg⟩ : ∃ g, ao = some ⟨g, 0, none⟩ ∧ base ≤ g := by
      obtain ⟨g, cap, hv, hb, _⟩ := owned_some HO.out (by omega)
      injection hv with e1
      exact ⟨g, e1, hb⟩
    subst hao
    have HK : Hid (KI p l l (k + 1) k ∧ DW w base g n cc l w1) := ⟨KI.start hek hpk hbf, owned_below HO.out hb, grown_below hb⟩
    have hne : ((k : Int) == -1) = false := by simp
    clear hkl hek hpk hbf hb
    go_wp2
    go_loopg [5, 6, 7] n (fun q iv jv _ wr => ∃ (i j : Nat) (cur : List (Int × Int)), n + 1 ≤ j + q ∧ iv = .int .i64 i ∧ jv = .int .i64 j ∧ Hid (KI p l cur j i ∧ DW w base g n cc cur wr))
    case atStart => exact ⟨k, k + 1, l, by omega, rfl, by go_num, HK.out⟩
    case round =>
      clear HK
      obtain ⟨i, j, cur, hjq, rfl, rfl, HQ⟩ := hrel
      have hij := HQ.out.1.lt
      have hjn : j ≤ n := by rw [← HL.out]; exact HQ.out.1.le
      by_cases hlt : j < n
      · obtain ⟨e, he⟩ : ∃ e, l[j]? = some e := ⟨l[j]'(by rw [HL.out]; exact hlt), List.getElem?_eq_getElem _⟩
        obtain ⟨d0, d1, _⟩ := HQ.out.2.cell (HQ.out.1.get he)
        obtain ⟨o, ho⟩ : ∃ o, cur[i]? = some o := ⟨cur[i]'(by rw [HQ.out.1.len, HL.out]; omega), List.getElem?_eq_getElem _⟩
        have HA : Hid (Calls Try.prog fid #[.agg #[.int .i64 e.1, .int .i64 e.2], .pointer (some ⟨cb, 0, none⟩)] (wr.alloc (.cells #[.int .i64 e.1, .int .i64 e.2] 42)) fun r W' => r = .returned (.bool (p e)) ∧ Below (wr.alloc (.cells #[.int .i64 e.1, .int .i64 e.2] 42)).heap.size (wr.alloc (.cells #[.int .i64 e.1, .int .i64 e.2] 42)) W') := HC.out e (List.mem_of_getElem? he) _ (grown_trans HQ.out.2.grown (grown_below ((Below.refl _ _).alloc (Nat.le_refl _) _)))
        have HE : Hid (l[j]? = some e ∧ cur[i]? = some o) := ⟨he, ho⟩
        have hk0 : decide ((j : Int) < (n : Int)) = true := by simp; omega
        clear he ho
        go_wp2_with fail
        refine HA.out.mono ?_
        rintro r w2 ⟨rfl, hb2⟩
        have HN : Hid (DW w base g n cc cur w2 ∧ w2.heap[wr.heap.size]? = some (.cells #[.int .i64 e.1, .int .i64 e.2] 42 (0, 0))) := by
          have hb0 := (Below.refl wr.heap.size wr).alloc (Nat.le_refl _) (.cells #[.int .i64 e.1, .int .i64 e.2] 42)
          exact ⟨HQ.out.2.next (hb0.trans (hb2.mono hb0.size)), by rw [hb2.block _ (by simp)]; exact heap_alloc_new wr _⟩
        have b0 : w2.cell? ⟨wr.heap.size, 0, none⟩ = some (.int .i64 e.1) := blk HN.out.2 rfl
        have b1 : w2.cell? ⟨wr.heap.size, 1, none⟩ = some (.int .i64 e.2) := blk HN.out.2 rfl
        obtain ⟨s0, s1, sf⟩ := HN.out.1.cell HE.out.2
        clear hb2 HA d0 d1
        cases hp : p e with
        | true =>
          have HM : Hid (KI p l cur (j + 1) i ∧ DW w base g n cc cur w2) := ⟨HQ.out.1.skip HE.out.1 hp, HN.out.1⟩
          clear hp HN HQ HE b0 b1 s0 s1 sf
          go_wp2
          go_roundg (gk - 1)
          case measure => omega
          case rel => exact ⟨i, j + 1, cur, by omega, rfl, by go_num, HM.out⟩
        | false =>
          have HM : Hid (KI p l (cur.set i e) (j + 1) (i + 1) ∧ DW w base g n cc (cur.set i e) ((w2.setCell ⟨g, i * 2, none⟩ (.int .i64 e.1)).setCell ⟨g, i * 2 + 1, none⟩ (.int .i64 e.2))) := ⟨HQ.out.1.keep HE.out.1 hp, HN.out.1.put i e⟩
          clear hp HN HQ HE
          go_wp2
          go_roundg (gk - 1)
          case measure => omega
          case rel => exact ⟨i + 1, j + 1, cur.set i e, by omega, by go_num, by go_num, HM.out⟩
      · have hjn2 : j = n := by omega
        have hk0 : decide ((j : Int) < (n : Int)) = false := by simp; omega
        obtain ⟨hcap, hcm, hth⟩ := own_there HQ.out.2.row
        have HCl : Hid (∀ ty, (Builtin.clear_ #[37] ty #[.slice (some ⟨g, i * 2, none⟩) (n - i) (cc - i)]).run Try.prog wr = .ok (.tuple #[]) (wr.setCells g (i * 2) (Builtin.zeroCells (Value.agg #[.int .i64 0, .int .i64 0]).cells (n - i)).toList)) := fun ty =>
          run_clear_cells wr 37 42 ty _ Try.underlying37 zero49 2 rfl (by decide) (fun u hu => by simp [Value.cells] at hu; rcases hu with rfl | rfl <;> rfl) g (i * 2) (n - i) (cc - i) (by omega) (fun t ht => (hth _ (by omega)).1) (fun t ht => (hth _ (by omega)).2)
        have HM : Hid ((wr.setCells g (i * 2) (Builtin.zeroCells (Value.agg #[.int .i64 0, .int .i64 0]).cells (n - i)).toList).ownsRow base 42 2 (.slice (some ⟨g, 0, none⟩) i cc) i (pcRow (l.filter fun e => !p e)) ∧ w.grownBy (wr.setCells g (i * 2) (Builtin.zeroCells (Value.agg #[.int .i64 0, .int .i64 0]).cells (n - i)).toList) (some g) ∧ i = (l.filter fun e => !p e).length) := by
          have h1 := HQ.out.1.done (by rw [HL.out]; exact hjn2)
          have h2 := own_cut HQ.out.2.row i (i * 2) (Builtin.zeroCells (Value.agg #[.int .i64 0, .int .i64 0]).cells (n - i)).toList (by omega) (Nat.le_refl _)
          rw [pcRow_take, h1] at h2
          refine ⟨h2, grown_trans HQ.out.2.grown (grown_setCells _ _ _ _), ?_⟩
          have h3 := congrArg List.length h1
          rw [List.length_take, HQ.out.1.len, HL.out] at h3
          omega
        have hcl := HCl.out
        have hic : i < cc := by omega
        unfold maxLen at hcm
        clear HQ hth HCl hjn2
        go_wp2
        go_ret
        exact ⟨i, rfl, HM.out.2.2, HM.out.1, HM.out.2.1⟩
end Go.Proofs.Ytolehoibpnenlab
