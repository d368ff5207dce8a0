/-
  The walks of the program's reader: a read's last line.
-/
import Derived.Test.YtcpoiaclicmmmaaRead2
import Derived.Test.YtcpoiaclicmmmaaDrawn
namespace Go.Proofs.Ytcpoiaclicmmmaa
open Go.RowKit

/-- append onto a row of the call's own, as one step of a statement that leaves its order open. -/
theorem step_append_own {P : Program} {ops : Array Oper} {o : Oper} {a : Act} {w : World} {K : Act → World → Prop} {Q : Exit → Act → World → Prop} {E : Prop}
    (hg : o.guard = none) (s x : Operand) (t : TypeId) (hop : o.op = Op.call { callee := Callee.builtin Builtin.append, args := #[s, x], argTypes := #[t, t] })
    (base : Nat) (e : TypeId) (i : TypeInfo) (z : Value) (size bytes : Nat) (h1 : P.underlying t = some (.slice e)) (h2 : P.info? e = some i) (h3 : i.zero = some z) (h4 : i.size = size) (h5 : i.bytes = bytes) (h6 : z.cells.size = size) (h7 : 0 < size)
    (v : Value) (n : Nat) (xs : List Value) (hs : a.eval s = v) (hown : w.ownsRow base e size v n xs)
    (ad : Addr) (m c : Nat) (news : List Value) (hx : a.eval x = .slice (some ad) m c) (hn : news.length = m * size) (hc : ∀ j u, news[j]? = some u → w.cell? (ad.add j) = some u) (h1c : ∀ u ∈ news, u.oneCell' = true)
    (b1 : n + m ≤ maxLen) (b2 : (n + m) * bytes ≤ 140737488355328) (hbase : base ≤ w.heap.size)
    (hK : ∀ v' w', w'.ownsRow base e size v' (n + m) (xs ++ news) → w.grownBy w' v.ownBlock → K (a.put o.dst v') w') :
    if Region.wanted o (yielded ops a.tmps) = true then Oper.wp P o a w K Q else E := by
  have hw : Region.wanted o (yielded ops a.tmps) = true := by simp [Region.wanted, hg]
  rw [if_pos hw]
  obtain ⟨v', w', hrun, r1, r2, _⟩ := run_append_own (P := P) w base t o.type e i z size bytes h1 h2 h3 h4 h5 h6 h7 v n xs hown ad m c news hn hc h1c b1 b2 hbase
  unfold Oper.wp
  simp [execOp, hop, resolve, invoke, builtin, hs, hx, hrun, Result.andThen]
  exact hK v' w' r1 r2

theorem clone_calls (s : ByteArray) (w : World) (hs : s.size ≤ 1048576) :
    Calls Try.prog 49 #[.string s] w fun e w' => e = .returned (.string s) ∧ Below w.heap.size w w' := by
  have HC : Hid (∀ w, Calls Try.prog 60 #[.string s] w fun e w' => e = .returned (.string s) ∧ Below w.heap.size w w') := fun w => Try.stringslite_Clone s w (by omega)
  clear hs
  go_enter Try.func49, Try.ntmps49
  go_wp2_with (go_at_call 60; refine (HC.out _).mono ?_; rintro e w' ⟨rfl, hb⟩)
  go_ret
  exact ⟨rfl, hb⟩

theorem new_cells (W : World) (q : Rd) : ∀ j u, (rdCells q)[j]? = some u → (W.alloc (.cells #[.string q.1, .string q.2.1, .string q.2.2.1, .string q.2.2.2] 29)).cell? ((⟨W.heap.size, 0, none⟩ : Addr).add j) = some u := by
  intro j u hu
  have hadd : (⟨W.heap.size, 0, none⟩ : Addr).add j = ⟨W.heap.size, j, none⟩ := by unfold Addr.add; split <;> simp_all
  rw [hadd, cell_of_row _ _ j _ _ _ (heap_alloc_new W _)]
  simpa [rdCells] using hu

def EndPost (B b : Nat) (rest line : ByteArray) (num : Nat) (qs : List Rd) (had : Nat) (q : Rd) (ti : ByteArray) (ok : Bool) (w : World) (e : Ending) (w' : World) : Prop :=
  ∃ sv qs', e = .returned (.bool ok) ∧ RAt B b rest line num sv qs' had q ti w' ∧ Below B w w' ∧ (ok = true → qs' = qs ++ [q])

set_option maxHeartbeats 2000000 in
theorem end_calls (B b : Nat) (rest line : ByteArray) (num : Nat) (sv : Value) (qs : List Rd) (had : Nat) (q : Rd) (ti : ByteArray) (s : ByteArray) (w : World) (h : RAt B b rest line num sv qs had q ti w) (hs : s.size ≤ 1048576)
    (h1 : q.1.size ≤ 1048576) (h2 : q.2.1.size ≤ 1048576) (h3 : q.2.2.1.size ≤ 1048576) (hq : qs.length ≤ 256) :
    Calls Try.prog 33 #[.pointer (some ⟨b, 0, none⟩), .string s] w fun e w' => EndPost B b rest line num qs had (q.1, q.2.1, q.2.2.1, s) ti (lastB q.2.2.1.data.toList s.data.toList) w e w' := by
  have hf8 := h.frozen 8
  have hc8 := h.cell8
  have hc5 := h.cell5
  have hc6 := h.cell6
  have hc7 := h.cell7
  have HR : Hid (RAt B b rest line num sv qs had (q.1, q.2.1, q.2.2.1, s) ti (w.setCell ⟨b, 8, none⟩ (.string s)) ∧ Below B w (w.setCell ⟨b, 8, none⟩ (.string s))) := ⟨h.put8 s, (Below.refl B w).setCell (p := ⟨b, 8, none⟩) h.base _⟩
  have HSg : Hid (∀ w, Calls Try.prog 39 #[.agg #[.string q.1, .string q.2.1, .string q.2.2.1, .string s]] w fun e w' => e = .returned (.bool (lastB q.2.2.1.data.toList s.data.toList)) ∧ Below w.heap.size w w') := fun w => hasSigns_calls (q.1, q.2.1, q.2.2.1, s) w (by unfold maxLen; show s.size ≤ _; omega)
  clear h
  go_enter Try.func33, Try.ntmps33
  go_wp2_with fail
  refine (HSg.out _).mono ?_
  rintro e w1 ⟨rfl, hb⟩
  have HJ : Hid (RAt B b rest line num sv qs had (q.1, q.2.1, q.2.2.1, s) ti w1 ∧ Below B w w1) := ⟨HR.out.1.below hb, below_more HR.out.2 (Nat.le_trans HR.out.1.base (Nat.le_of_lt HR.out.1.lt)) hb⟩
  clear hb HR HSg hf8 hc5 hc6 hc7 hc8
  cases hok : lastB q.2.2.1.data.toList s.data.toList with
  | false =>
    have HE : Hid (EndPost B b rest line num qs had (q.1, q.2.1, q.2.2.1, s) ti false w (.returned (.bool false)) w1) := ⟨sv, qs, rfl, HJ.out.1, HJ.out.2, fun h => by cases h⟩
    have HOK : Hid (lastB q.2.2.1.data.toList s.data.toList = false) := hok
    clear HJ hok
    go_wp2
    go_ret
    rw [HOK.out]
    exact HE.out
  | true =>
    have HOK : Hid (lastB q.2.2.1.data.toList s.data.toList = true) := hok
    clear hok
    obtain ⟨a, c, d, x⟩ := q
    dsimp only at h1 h2 h3 HJ HOK ⊢
    obtain ⟨ao, cap, hsv⟩ := owned_shape HJ.out.1.reads
    subst hsv
    generalize hn : qs.length = n at *
    have HN : Hid (qs.length = n) := hn
    clear hn
    have HCa : Hid (∀ w, Calls Try.prog 49 #[.string a] w fun e w' => e = .returned (.string a) ∧ Below w.heap.size w w') := fun w => clone_calls a w h1
    have HCc : Hid (∀ w, Calls Try.prog 49 #[.string c] w fun e w' => e = .returned (.string c) ∧ Below w.heap.size w w') := fun w => clone_calls c w h2
    have HCd : Hid (∀ w, Calls Try.prog 49 #[.string d] w fun e w' => e = .returned (.string d) ∧ Below w.heap.size w w') := fun w => clone_calls d w h3
    have HCs : Hid (∀ w, Calls Try.prog 49 #[.string s] w fun e w' => e = .returned (.string s) ∧ Below w.heap.size w w') := fun w => clone_calls s w hs
    have HJB : Hid (∀ W W1, Hid (RAt B b rest line num (.slice ao n cap) qs had (a, c, d, s) ti W ∧ Below B w W) → Below W.heap.size W W1 → Hid (RAt B b rest line num (.slice ao n cap) qs had (a, c, d, s) ti W1 ∧ Below B w W1)) := by
      intro W W1 hJ hb
      exact ⟨hJ.out.1.below hb, hJ.out.2.trans (hb.mono (Nat.le_trans hJ.out.1.base (Nat.le_of_lt hJ.out.1.lt)))⟩
    have HKJ : Hid (∀ W, Hid (RAt B b rest line num (.slice ao n cap) qs had (a, c, d, s) ti W ∧ Below B w W) → W.cell? ⟨b, 3, none⟩ = some (.slice ao n cap) ∧ W.cell? ⟨b, 5, none⟩ = some (.string a) ∧ W.cell? ⟨b, 6, none⟩ = some (.string c) ∧ W.cell? ⟨b, 7, none⟩ = some (.string d) ∧ W.cell? ⟨b, 8, none⟩ = some (.string s)) :=
      fun W hJ => ⟨hJ.out.1.cell3, hJ.out.1.cell5, hJ.out.1.cell6, hJ.out.1.cell7, hJ.out.1.cell8⟩
    have HKA : Hid (∀ W o, Hid (RAt B b rest line num (.slice ao n cap) qs had (a, c, d, s) ti W ∧ Below B w W) → (W.alloc o).cell? ⟨b, 3, none⟩ = some (.slice ao n cap) ∧ (W.alloc o).cell? ⟨b, 5, none⟩ = some (.string a) ∧ (W.alloc o).cell? ⟨b, 6, none⟩ = some (.string c) ∧ (W.alloc o).cell? ⟨b, 7, none⟩ = some (.string d) ∧ (W.alloc o).cell? ⟨b, 8, none⟩ = some (.string s)) :=
      fun W o hJ => ⟨(hJ.out.1.alloc o).cell3, (hJ.out.1.alloc o).cell5, (hJ.out.1.alloc o).cell6, (hJ.out.1.alloc o).cell7, (hJ.out.1.alloc o).cell8⟩
    have HJO : Hid (∀ W o, Hid (RAt B b rest line num (.slice ao n cap) qs had (a, c, d, s) ti W ∧ Below B w W) → (W.alloc o).ownsRow B 29 4 (.slice ao n cap) n (rowCells qs)) := by
      intro W o hJ
      have := (hJ.out.1.alloc o).reads
      rw [HN.out] at this; exact this
    have HJS : Hid (∀ W o, Hid (RAt B b rest line num (.slice ao n cap) qs had (a, c, d, s) ti W ∧ Below B w W) → B ≤ (W.alloc o).heap.size) := fun W o hJ => by
      simp; exact Nat.le_succ_of_le (Nat.le_trans hJ.out.1.base (Nat.le_of_lt hJ.out.1.lt))
    have HJE : Hid (∀ W o ao2 cap2 w4, Hid (RAt B b rest line num (.slice ao n cap) qs had (a, c, d, s) ti W ∧ Below B w W) → w4.ownsRow B 29 4 (.slice ao2 (n + 1) cap2) (n + 1) (rowCells qs ++ rdCells (a, c, d, s)) → (W.alloc o).grownBy w4 (Value.slice ao n cap).ownBlock →
        (w4.cell? ⟨b, 3, none⟩ = some (.slice ao n cap) ∧ w4.cell? ⟨b, 5, none⟩ = some (.string a) ∧ w4.cell? ⟨b, 6, none⟩ = some (.string c) ∧ w4.cell? ⟨b, 7, none⟩ = some (.string d) ∧ w4.cell? ⟨b, 8, none⟩ = some (.string s)) ∧ w4.frozen? ⟨b, 3, none⟩ = false ∧
        EndPost B b rest line num qs had (a, c, d, s) ti true w (.returned (.bool true)) (w4.setCell ⟨b, 3, none⟩ (.slice ao2 (n + 1) cap2))) := by
      intro W o ao2 cap2 w4 hJ ho hg
      have hR := hJ.out.1.alloc o
      have ho2 : w4.ownsRow B 29 4 (.slice ao2 (n + 1) cap2) (qs ++ [(a, c, d, s)]).length (rowCells (qs ++ [(a, c, d, s)])) := by
        rw [rowCells_snoc, List.length_append, HN.out]; exact ho
      obtain ⟨k1, k2, k3⟩ := hR.append3 hg ho2
      have hBW : B ≤ W.heap.size := Nat.le_trans hJ.out.1.base (Nat.le_of_lt hJ.out.1.lt)
      exact ⟨⟨k1.1, k2⟩, k1.2, _, _, rfl, k3, ((hJ.out.2.alloc hBW o).grown hg (HJS.out W o hJ) (fun k hk => (hR.reads.lt k hk).1)).setCell (p := (⟨b, 3, none⟩ : Addr)) hR.base _, fun _ => rfl⟩
    have HJd := HJB.out w1 w1.drew HJ (Below.refl _ _).drew
    obtain ⟨i0, hi, hz0, hz1, hz2⟩ := info_parts info29
    clear HN
    go_wp2_with fail
    refine wp_region_noPanic ?_
    refine wp_region_X 34 (fun W => W.cell? ⟨b, 3, none⟩ = some (.slice ao n cap) ∧ W.cell? ⟨b, 5, none⟩ = some (.string a) ∧ W.cell? ⟨b, 6, none⟩ = some (.string c) ∧ W.cell? ⟨b, 7, none⟩ = some (.string d) ∧ W.cell? ⟨b, 8, none⟩ = some (.string s)) (by kernel_rfl) ?_
    have HS0 := HKJ.out _ HJd
    refine wpAnyX_take (i := 0) (v := .pointer (some ⟨b, 0, none⟩)) rfl (by kernel_rfl) (by kernel_rfl) (by kernel_rfl) (by kernel_rfl) (by kernel_rfl) (fun _ _ _ h => h) HS0 (Or.inl ⟨by rfl, by (intro W hW; obtain ⟨_, _, _, _, _⟩ := hW; go_simp)⟩) ?_
    simp only [Act.put]
    refine wpAnyX_take (i := 1) (v := .pointer (some ⟨b, 0, none⟩)) rfl (by kernel_rfl) (by kernel_rfl) (by kernel_rfl) (by kernel_rfl) (by kernel_rfl) (fun _ _ _ h => h) HS0 (Or.inl ⟨by rfl, by (intro W hW; obtain ⟨_, _, _, _, _⟩ := hW; go_simp)⟩) ?_
    simp only [Act.put]
    refine wpAnyX_take (i := 2) (v := .pointer (some ⟨b, 0, none⟩)) rfl (by kernel_rfl) (by kernel_rfl) (by kernel_rfl) (by kernel_rfl) (by kernel_rfl) (fun _ _ _ h => h) HS0 (Or.inl ⟨by rfl, by (intro W hW; obtain ⟨_, _, _, _, _⟩ := hW; go_simp)⟩) ?_
    simp only [Act.put]
    refine wpAnyX_take (i := 3) (v := .pointer (some ⟨b, 3, none⟩)) rfl (by kernel_rfl) (by kernel_rfl) (by kernel_rfl) (by kernel_rfl) (by kernel_rfl) (fun _ _ _ h => h) HS0 (Or.inl ⟨by rfl, by (intro W hW; obtain ⟨_, _, _, _, _⟩ := hW; go_simp)⟩) ?_
    simp only [Act.put]
    refine wpAnyX_take (i := 4) (v := .slice ao n cap) rfl (by kernel_rfl) (by kernel_rfl) (by kernel_rfl) (by kernel_rfl) (by kernel_rfl) (fun _ _ _ h => h) HS0 (Or.inl ⟨by rfl, by (intro W hW; obtain ⟨_, _, _, _, _⟩ := hW; go_simp)⟩) ?_
    simp only [Act.put]
    refine wpAnyX_take (i := 5) (v := .pointer (some ⟨b, 0, none⟩)) rfl (by kernel_rfl) (by kernel_rfl) (by kernel_rfl) (by kernel_rfl) (by kernel_rfl) (fun _ _ _ h => h) HS0 (Or.inl ⟨by rfl, by (intro W hW; obtain ⟨_, _, _, _, _⟩ := hW; go_simp)⟩) ?_
    simp only [Act.put]
    refine wpAnyX_take (i := 6) (v := .pointer (some ⟨b, 0, none⟩)) rfl (by kernel_rfl) (by kernel_rfl) (by kernel_rfl) (by kernel_rfl) (by kernel_rfl) (fun _ _ _ h => h) HS0 (Or.inl ⟨by rfl, by (intro W hW; obtain ⟨_, _, _, _, _⟩ := hW; go_simp)⟩) ?_
    simp only [Act.put]
    refine wpAnyX_take (i := 7) (v := .pointer (some ⟨b, 5, none⟩)) rfl (by kernel_rfl) (by kernel_rfl) (by kernel_rfl) (by kernel_rfl) (by kernel_rfl) (fun _ _ _ h => h) HS0 (Or.inl ⟨by rfl, by (intro W hW; obtain ⟨_, _, _, _, _⟩ := hW; go_simp)⟩) ?_
    simp only [Act.put]
    refine wpAnyX_take (i := 8) (v := .pointer (some ⟨b, 5, none⟩)) rfl (by kernel_rfl) (by kernel_rfl) (by kernel_rfl) (by kernel_rfl) (by kernel_rfl) (fun _ _ _ h => h) HS0 (Or.inl ⟨by rfl, by (intro W hW; obtain ⟨_, _, _, _, _⟩ := hW; go_simp)⟩) ?_
    simp only [Act.put]
    refine wpAnyX_take (i := 9) (v := .string a) rfl (by kernel_rfl) (by kernel_rfl) (by kernel_rfl) (by kernel_rfl) (by kernel_rfl) (fun _ _ _ h => h) HS0 (Or.inl ⟨by rfl, by (intro W hW; obtain ⟨_, _, _, _, _⟩ := hW; go_simp)⟩) ?_
    simp only [Act.put]
    refine wpAnyX_take (i := 11) (v := .pointer (some ⟨b, 0, none⟩)) rfl (by kernel_rfl) (by kernel_rfl) (by kernel_rfl) (by kernel_rfl) (by kernel_rfl) (fun _ _ _ h => h) HS0 (Or.inl ⟨by rfl, by (intro W hW; obtain ⟨_, _, _, _, _⟩ := hW; go_simp)⟩) ?_
    simp only [Act.put]
    refine wpAnyX_take (i := 12) (v := .pointer (some ⟨b, 0, none⟩)) rfl (by kernel_rfl) (by kernel_rfl) (by kernel_rfl) (by kernel_rfl) (by kernel_rfl) (fun _ _ _ h => h) HS0 (Or.inl ⟨by rfl, by (intro W hW; obtain ⟨_, _, _, _, _⟩ := hW; go_simp)⟩) ?_
    simp only [Act.put]
    refine wpAnyX_take (i := 13) (v := .pointer (some ⟨b, 5, none⟩)) rfl (by kernel_rfl) (by kernel_rfl) (by kernel_rfl) (by kernel_rfl) (by kernel_rfl) (fun _ _ _ h => h) HS0 (Or.inl ⟨by rfl, by (intro W hW; obtain ⟨_, _, _, _, _⟩ := hW; go_simp)⟩) ?_
    simp only [Act.put]
    refine wpAnyX_take (i := 14) (v := .pointer (some ⟨b, 6, none⟩)) rfl (by kernel_rfl) (by kernel_rfl) (by kernel_rfl) (by kernel_rfl) (by kernel_rfl) (fun _ _ _ h => h) HS0 (Or.inl ⟨by rfl, by (intro W hW; obtain ⟨_, _, _, _, _⟩ := hW; go_simp)⟩) ?_
    simp only [Act.put]
    refine wpAnyX_take (i := 15) (v := .string c) rfl (by kernel_rfl) (by kernel_rfl) (by kernel_rfl) (by kernel_rfl) (by kernel_rfl) (fun _ _ _ h => h) HS0 (Or.inl ⟨by rfl, by (intro W hW; obtain ⟨_, _, _, _, _⟩ := hW; go_simp)⟩) ?_
    simp only [Act.put]
    refine wpAnyX_take (i := 17) (v := .pointer (some ⟨b, 0, none⟩)) rfl (by kernel_rfl) (by kernel_rfl) (by kernel_rfl) (by kernel_rfl) (by kernel_rfl) (fun _ _ _ h => h) HS0 (Or.inl ⟨by rfl, by (intro W hW; obtain ⟨_, _, _, _, _⟩ := hW; go_simp)⟩) ?_
    simp only [Act.put]
    refine wpAnyX_take (i := 18) (v := .pointer (some ⟨b, 0, none⟩)) rfl (by kernel_rfl) (by kernel_rfl) (by kernel_rfl) (by kernel_rfl) (by kernel_rfl) (fun _ _ _ h => h) HS0 (Or.inl ⟨by rfl, by (intro W hW; obtain ⟨_, _, _, _, _⟩ := hW; go_simp)⟩) ?_
    simp only [Act.put]
    refine wpAnyX_take (i := 19) (v := .pointer (some ⟨b, 5, none⟩)) rfl (by kernel_rfl) (by kernel_rfl) (by kernel_rfl) (by kernel_rfl) (by kernel_rfl) (fun _ _ _ h => h) HS0 (Or.inl ⟨by rfl, by (intro W hW; obtain ⟨_, _, _, _, _⟩ := hW; go_simp)⟩) ?_
    simp only [Act.put]
    refine wpAnyX_take (i := 20) (v := .pointer (some ⟨b, 7, none⟩)) rfl (by kernel_rfl) (by kernel_rfl) (by kernel_rfl) (by kernel_rfl) (by kernel_rfl) (fun _ _ _ h => h) HS0 (Or.inl ⟨by rfl, by (intro W hW; obtain ⟨_, _, _, _, _⟩ := hW; go_simp)⟩) ?_
    simp only [Act.put]
    refine wpAnyX_take (i := 21) (v := .string d) rfl (by kernel_rfl) (by kernel_rfl) (by kernel_rfl) (by kernel_rfl) (by kernel_rfl) (fun _ _ _ h => h) HS0 (Or.inl ⟨by rfl, by (intro W hW; obtain ⟨_, _, _, _, _⟩ := hW; go_simp)⟩) ?_
    simp only [Act.put]
    refine wpAnyX_take (i := 23) (v := .pointer (some ⟨b, 0, none⟩)) rfl (by kernel_rfl) (by kernel_rfl) (by kernel_rfl) (by kernel_rfl) (by kernel_rfl) (fun _ _ _ h => h) HS0 (Or.inl ⟨by rfl, by (intro W hW; obtain ⟨_, _, _, _, _⟩ := hW; go_simp)⟩) ?_
    simp only [Act.put]
    refine wpAnyX_take (i := 24) (v := .pointer (some ⟨b, 0, none⟩)) rfl (by kernel_rfl) (by kernel_rfl) (by kernel_rfl) (by kernel_rfl) (by kernel_rfl) (fun _ _ _ h => h) HS0 (Or.inl ⟨by rfl, by (intro W hW; obtain ⟨_, _, _, _, _⟩ := hW; go_simp)⟩) ?_
    simp only [Act.put]
    refine wpAnyX_take (i := 25) (v := .pointer (some ⟨b, 5, none⟩)) rfl (by kernel_rfl) (by kernel_rfl) (by kernel_rfl) (by kernel_rfl) (by kernel_rfl) (fun _ _ _ h => h) HS0 (Or.inl ⟨by rfl, by (intro W hW; obtain ⟨_, _, _, _, _⟩ := hW; go_simp)⟩) ?_
    simp only [Act.put]
    refine wpAnyX_take (i := 26) (v := .pointer (some ⟨b, 8, none⟩)) rfl (by kernel_rfl) (by kernel_rfl) (by kernel_rfl) (by kernel_rfl) (by kernel_rfl) (fun _ _ _ h => h) HS0 (Or.inl ⟨by rfl, by (intro W hW; obtain ⟨_, _, _, _, _⟩ := hW; go_simp)⟩) ?_
    simp only [Act.put]
    refine wpAnyX_take (i := 27) (v := .string s) rfl (by kernel_rfl) (by kernel_rfl) (by kernel_rfl) (by kernel_rfl) (by kernel_rfl) (fun _ _ _ h => h) HS0 (Or.inl ⟨by rfl, by (intro W hW; obtain ⟨_, _, _, _, _⟩ := hW; go_simp)⟩) ?_
    simp only [Act.put]
    refine wpAnyX_one (i := 10) rfl (by kernel_rfl) (fun K hK => ?_)
    go_simp
    go_wp2_with (go_at_call 49; refine (HCa.out _).mono ?_; rintro e W1 ⟨rfl, hb⟩)
    have HJ1 := HJB.out _ _ HJd hb
    clear hb
    refine hK.out _ _ (fun _ => HKJ.out _ HJ1) ?_
    clear hK K
    have HS1 := HKJ.out _ HJ1
    refine wpAnyX_one (i := 16) rfl (by kernel_rfl) (fun K hK => ?_)
    go_simp
    go_wp2_with (go_at_call 49; refine (HCc.out _).mono ?_; rintro e W2 ⟨rfl, hb⟩)
    have HJ2 := HJB.out _ _ HJ1 hb
    clear hb
    refine hK.out _ _ (fun _ => HKJ.out _ HJ2) ?_
    clear hK K
    have HS2 := HKJ.out _ HJ2
    refine wpAnyX_one (i := 22) rfl (by kernel_rfl) (fun K hK => ?_)
    go_simp
    go_wp2_with (go_at_call 49; refine (HCd.out _).mono ?_; rintro e W3 ⟨rfl, hb⟩)
    have HJ3 := HJB.out _ _ HJ2 hb
    clear hb
    refine hK.out _ _ (fun _ => HKJ.out _ HJ3) ?_
    clear hK K
    have HS3 := HKJ.out _ HJ3
    refine wpAnyX_one (i := 28) rfl (by kernel_rfl) (fun K hK => ?_)
    go_simp
    go_wp2_with (go_at_call 49; refine (HCs.out _).mono ?_; rintro e W4 ⟨rfl, hb⟩)
    have HJ4 := HJB.out _ _ HJ3 hb
    clear hb
    refine hK.out _ _ (fun _ => HKJ.out _ HJ4) ?_
    clear hK K
    have HS4 := HKJ.out _ HJ4
    refine wpAnyX_take (i := 29) (v := .agg #[.string a, .string c, .string d, .string s]) rfl (by kernel_rfl) (by kernel_rfl) (by kernel_rfl) (by kernel_rfl) (by kernel_rfl) (fun _ _ _ h => h) HS4 (Or.inl ⟨by rfl, by (intro W hW; obtain ⟨_, _, _, _, _⟩ := hW; go_simp)⟩) ?_
    simp only [Act.put]
    refine wpAnyX_one (i := 30) rfl (by kernel_rfl) (fun K hK => ?_)
    go_simp
    refine hK.out _ _ (fun _ => HKA.out _ _ HJ4) ?_
    clear hK K
    refine wpAnyX_one (i := 31) rfl (by kernel_rfl) (fun K hK => ?_)
    refine step_append_own rfl (.tmp 20) (.tmp 46) 23 rfl B 29 i0 _ 4 64 Try.underlying23 hi hz0 hz1 hz2 rfl (by decide) _ _ _ (by simp [Act.eval]) (HJO.out _ _ HJ4) ⟨_, 0, none⟩ 1 1 (rdCells (a, c, d, s)) (by simp [Act.eval]) rfl (new_cells _ (a, c, d, s)) (rd_oneCell (a, c, d, s)) (by unfold maxLen; omega) (by omega) (HJS.out _ _ HJ4) ?_
    intro v' w4 ho hg
    obtain ⟨ao2, cap2, rfl⟩ := owned_shape ho
    obtain ⟨HS5, k2, k5⟩ := HJE.out _ _ _ _ _ HJ4 ho hg
    clear ho hg
    refine hK.out _ _ (fun _ => HS5) ?_
    clear hK K
    simp only [Act.put]
    have hc3 := HS5.1
    refine wpAnyX_take (i := 32) (v := .pointer (some ⟨b, 0, none⟩)) rfl (by kernel_rfl) (by kernel_rfl) (by kernel_rfl) (by kernel_rfl) (by kernel_rfl) (fun _ _ _ h => h) HS5 (Or.inl ⟨by rfl, by (intro W hW; obtain ⟨_, _, _, _, _⟩ := hW; go_simp)⟩) ?_
    simp only [Act.put]
    refine wpAnyX_take (i := 33) (v := .pointer (some ⟨b, 3, none⟩)) rfl (by kernel_rfl) (by kernel_rfl) (by kernel_rfl) (by kernel_rfl) (by kernel_rfl) (fun _ _ _ h => h) HS5 (Or.inl ⟨by rfl, by (intro W hW; obtain ⟨_, _, _, _, _⟩ := hW; go_simp)⟩) ?_
    simp only [Act.put]
    refine wpAnyX_one (i := 34) rfl (by kernel_rfl) (fun K hK => ?_)
    go_simp
    refine hK.out _ _ (fun h => absurd rfl h) ?_
    clear hK K
    refine wpAnyX_done (by kernel_rfl) ?_ _
    refine NoPanic.normal ?_
    go_wp2
    go_ret
    rw [HOK.out]
    exact k5
end Go.Proofs.Ytcpoiaclicmmmaa
