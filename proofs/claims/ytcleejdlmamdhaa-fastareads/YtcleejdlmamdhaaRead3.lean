/-
  The walks of the program's reader: a title's line, any line.
-/
import Derived.Test.YtcleejdlmamdhaaRead2
namespace Go.Proofs.Ytcleejdlmamdhaa
open Go.RowKit

/-- append onto a row of the call's own, as one step of a statement that leaves its order open. -/
theorem step_append_own {P : Program} {ops : Array Oper} {o : Oper} {a : Act} {w : World} {K : Act → World → Prop} {Q : Exit → Act → World → Prop} {E : Prop}
    (hg : o.guard = none) (s x : Operand) (t : TypeId) (hop : o.op = Op.call { callee := Callee.builtin Builtin.append, args := #[s, x], argTypes := #[t, t] })
    (base : Nat) (e : TypeId) (i : TypeInfo) (z : Value) (size bytes : Nat) (h1 : P.underlying t = some (.slice e)) (h2 : P.info? e = some i) (h3 : i.zero = some z) (h4 : i.size = size) (h5 : i.bytes = bytes) (h6 : z.cells.size = size) (h7 : 0 < size)
    (v : Value) (n : Nat) (xs : List Value) (hs : a.eval s = v) (hown : w.ownsRow base e size v n xs)
    (ad : Addr) (m c : Nat) (news : List Value) (hx : a.eval x = .slice (some ad) m c) (hn : news.length = m * size) (hc : ∀ j u, news[j]? = some u → w.cell? (ad.add j) = some u) (h1c : ∀ u ∈ news, u.oneCell' = true)
    (b1 : n + m ≤ maxLen) (b2 : (n + m) * bytes ≤ 140737488355328) (hbase : base ≤ w.heap.size)
    (hK : ∀ v' w', w'.ownsRow base e size v' (n + m) (xs ++ news) → w.grownBy w' v.ownBlock → K (a.put o.dst v') w') :
    if Region.wanted o (yielded ops a.tmps) = true then Oper.wp P o a w K Q else E := by
  have hw : Region.wanted o (yielded ops a.tmps) = true := by simp [Region.wanted, hg]
  rw [if_pos hw]
  obtain ⟨v', w', hrun, r1, r2, _⟩ := run_append_own (P := P) w base t o.type e i z size bytes h1 h2 h3 h4 h5 h6 h7 v n xs hown ad m c news hn hc h1c b1 b2 hbase
  unfold Oper.wp
  simp [execOp, hop, resolve, invoke, builtin, hs, hx, hrun, Result.andThen]
  exact hK v' w' r1 r2

theorem clone_calls (s : ByteArray) (w : World) (hs : s.size ≤ 1048576) :
    Calls Try.prog 51 #[.string s] w fun e w' => e = .returned (.string s) ∧ Below w.heap.size w w' := by
  have HC : Hid (∀ w, Calls Try.prog 60 #[.string s] w fun e w' => e = .returned (.string s) ∧ Below w.heap.size w w') := fun w => Try.stringslite_Clone s w (by omega)
  clear hs
  go_enter Try.func51, Try.ntmps51
  go_wp2_with (go_at_call 60; refine (HC.out _).mono ?_; rintro e w' ⟨rfl, hb⟩)
  go_ret
  exact ⟨rfl, hb⟩

def Done (B b : Nat) (rest line : ByteArray) (num : Nat) (st : List Pq) (w : World) : Prop :=
  ∃ sv qs bv, RAt B b rest line num sv qs bv [] w ∧ qs.map Sq.P = st.reverse
def FinPost (B b : Nat) (rest line : ByteArray) (num : Nat) (st : List Pq) (w : World) (e : Ending) (w' : World) : Prop :=
  e = .returned (.bool (!openB st)) ∧ (openB st = true → w' = w) ∧ (openB st = false → Done B b rest line num st w' ∧ Below B w w')

theorem fin_calls (B b : Nat) (rest line : ByteArray) (num : Nat) (st : List Pq) (w : World) (h : Stands B b rest line num st w) :
    Calls Try.prog 21 #[.pointer (some ⟨b, 0, none⟩)] w fun e w' => FinPost B b rest line num st w e w' := by
  obtain ⟨sv, qs, bv, bases, hr, hlk, hbl, hsl⟩ := h
  cases st with
  | nil =>
    obtain ⟨rfl, rfl⟩ := hlk
    refine (finish_none B b rest line num sv bv [] w hr).mono ?_
    rintro e w' ⟨rfl, rfl⟩
    exact ⟨rfl, fun _ => rfl, fun _ => ⟨⟨sv, [], bv, hr, rfl⟩, Below.refl _ _⟩⟩
  | cons q t =>
    have hn0 := nonempty_last hlk
    have hql := hlk.length
    obtain ⟨q0, qs0, rfl, h1, h2, h3, rfl⟩ := hlk
    by_cases hb : q.2.2 = []
    · rw [hb] at hr
      refine (finish_open B b rest line num sv _ bv w hr hn0 (by rw [hql]; exact hsl)).mono ?_
      rintro e w' ⟨rfl, rfl⟩
      have ho : openB (q :: t) = true := by simp [openB, hb]
      exact ⟨by rw [ho]; rfl, fun _ => rfl, fun h => by rw [ho] at h; cases h⟩
    · have hpos : 0 < q.2.2.length := List.length_pos_iff.2 hb
      have ho : openB (q :: t) = false := by simp [openB, hb]
      refine (finish_calls B b rest line num sv qs0 q0 bv q.2.2 w hr (by simp at hql hsl; omega) hpos hbl).mono ?_
      rintro e w' ⟨x, bv', rfl, hx, hr', hb'⟩
      refine ⟨by rw [ho]; rfl, fun h => (by rw [ho] at h; cases h), fun _ => ⟨⟨sv, _, bv', hr', ?_⟩, hb'⟩⟩
      rw [List.map_append, h1, List.reverse_cons]
      simp [Sq.P, h2, h3, hx]

theorem named_rev {qs : List Sq} {st : List Pq} (h : qs.map Sq.P = st.reverse) (n : List UInt8) : namedB (qs.map Sq.P) n = namedB st n := by
  unfold namedB; rw [h, List.any_reverse]
theorem Link.fresh {qs : List Sq} {st : List Pq} (h : qs.map Sq.P = st.reverse) (a c : ByteArray) : Link (qs ++ [(a, c, ⟨#[]⟩)]) [] ((a.data.toList, c.data.toList, []) :: st) :=
  ⟨(a, c, ⟨#[]⟩), qs, rfl, h, rfl, rfl, rfl⟩

theorem new_cells (W : World) (a c d : ByteArray) : ∀ j u, [Value.string a, .string c, .string d][j]? = some u → (W.alloc (.cells #[.string a, .string c, .string d] 29)).cell? ((⟨W.heap.size, 0, none⟩ : Addr).add j) = some u := by
  intro j u hu
  have hadd : (⟨W.heap.size, 0, none⟩ : Addr).add j = ⟨W.heap.size, j, none⟩ := by unfold Addr.add; split <;> simp_all
  rw [hadd, cell_of_row _ _ j _ _ _ (heap_alloc_new W _)]
  simpa using hu

set_option maxHeartbeats 2000000 in
theorem begin_calls (B b : Nat) (rest line : ByteArray) (num : Nat) (st : List Pq) (s : ByteArray) (w : World) (h : Stands B b rest line num st w) (hs : s.size ≤ 1048576) :
    Calls Try.prog 35 #[.pointer (some ⟨b, 0, none⟩), .string s] w fun e w' => StepPost B b rest line num (beginB st s.data.toList) w e w' := by
  have HFin : Hid (Calls Try.prog 21 #[.pointer (some ⟨b, 0, none⟩)] w fun e w' => FinPost B b rest line num st w e w') := fin_calls B b rest line num st w h
  have HTi : Hid (∀ w, Calls Try.prog 50 #[.string s] w fun e w' => TitlePost s w e w') := fun w => title_calls s w (by unfold maxLen; omega)
  have HNo : Hid (titleOkB s.data.toList = false ∨ namedB st (headB 32 s.data.toList) = true ∨ 64 ≤ st.length ∨ openB st = true → beginB st s.data.toList = none) := by
    intro hh
    unfold beginB
    rw [if_neg]
    intro hc
    simp only [Bool.and_eq_true, decide_eq_true_eq, Bool.not_eq_true'] at hc
    rcases hh with h | h | h | h
    · rw [h] at hc; exact absurd hc.1 (by decide)
    · rw [h] at hc; exact absurd hc.2.1 (by decide)
    · omega
    · rw [h] at hc; exact absurd hc.2.2.2 (by decide)
  have HYes : Hid (titleOkB s.data.toList = true → namedB st (headB 32 s.data.toList) = false → st.length < 64 → openB st = false → beginB st s.data.toList = some ((headB 32 s.data.toList, tailB 32 s.data.toList, []) :: st)) := by
    intro h1 h2 h3 h4
    unfold beginB
    rw [if_pos (by simp [h1, h2, h3, h4])]
  obtain ⟨sv, qs, bv, bases, hr, hlk, hbl, hsl⟩ := h
  have hc3 := hr.cell3
  obtain ⟨ao, cap, hsv⟩ := owned_shape hr.seqs
  rw [hsv, hlk.length] at hc3
  have HR : Hid (RAt B b rest line num sv qs bv bases w) := hr
  clear hr hsv hlk hbl
  generalize hstn : st.length = n at *
  by_cases h64 : n = 64
  · subst h64
    have HE : Hid (StepPost B b rest line num (beginB st s.data.toList) w (.returned (.bool false)) w) := by
      show StepPost _ _ _ _ _ _ _ _ _
      rw [HNo.out (.inr (.inr (.inl (Nat.le_refl _))))]
      exact ⟨Below.refl _ _, rfl, _, _, _, _, HR.out⟩
    clear HNo HYes HFin HTi HR hstn
    go_enter Try.func35, Try.ntmps35
    go_wp2
    go_ret
    exact HE.out
  · have hd64 : ((n : Int) == 64) = false := by simp; omega
    cases hop : openB st with
    | true =>
      have HE : Hid (StepPost B b rest line num (beginB st s.data.toList) w (.returned (.bool false)) w) := by
        show StepPost _ _ _ _ _ _ _ _ _
        rw [HNo.out (.inr (.inr (.inr hop)))]
        exact ⟨Below.refl _ _, rfl, _, _, _, _, HR.out⟩
      have HF2 : Hid (Calls Try.prog 21 #[.pointer (some ⟨b, 0, none⟩)] w fun e w' => e = .returned (.bool false) ∧ w' = w) := HFin.out.mono (by
        rintro e w' ⟨he, hw, _⟩
        rw [hop] at he
        exact ⟨he, hw hop⟩)
      clear HNo HYes HFin HTi HR hstn hop
      go_enter Try.func35, Try.ntmps35
      go_wp2_with (go_at_call 21; refine HF2.out.mono ?_; rintro e w' ⟨rfl, rfl⟩)
      go_ret
      exact HE.out
    | false =>
      have HF2 : Hid (Calls Try.prog 21 #[.pointer (some ⟨b, 0, none⟩)] w fun e w' => e = .returned (.bool true) ∧ Done B b rest line num st w' ∧ Below B w w') := HFin.out.mono (by
        rintro e w' ⟨he, _, hw⟩
        rw [hop] at he
        exact ⟨he, hw hop⟩)
      have HOP : Hid (openB st = false) := hop
      clear HFin hop
      have HST : Hid (st.length = n) := hstn
      clear hstn
      go_enter Try.func35, Try.ntmps35
      go_wp2_with fail
      refine HF2.out.mono ?_
      rintro e w1 ⟨rfl, ⟨sv1, qs1, bv1, hr1, hq1⟩, hb1⟩
      have HR1 : Hid (RAt B b rest line num sv1 qs1 bv1 [] w1) := hr1
      have HQ1 : Hid (qs1.map Sq.P = st.reverse) := hq1
      have HB1 : Hid (Below B w w1) := hb1
      clear hr1 hq1 hb1 hc3 HF2 HR
      go_wp2_with fail
      refine (HTi.out _).mono ?_
      rintro e w2 ⟨a, c, nd, rfl, hac, hw2⟩
      have HR2 : Hid (RAt B b rest line num sv1 qs1 bv1 [] w2 ∧ Below B w w2) := by
        have hb : Below w1.heap.size w1 w2 := by rw [hw2]; exact below_drewN (Below.refl _ _) nd
        exact ⟨HR1.out.below hb, HB1.out.trans (hb.mono (Nat.le_trans HR1.out.base (Nat.le_of_lt HR1.out.lt)))⟩
      clear hw2 HR1 HB1 HTi
      cases hok : titleOkB s.data.toList with
      | false =>
        have HE : Hid (StepPost B b rest line num (beginB st s.data.toList) w (.returned (.bool false)) w2) := by
          show StepPost _ _ _ _ _ _ _ _ _
          rw [HNo.out (.inl hok)]
          exact ⟨HR2.out.2, rfl, _, _, _, _, HR2.out.1⟩
        clear HNo HYes HR2 HQ1 hac hok HOP HST
        go_wp2
        go_ret
        exact HE.out
      | true =>
        obtain ⟨ha, hc⟩ := hac hok
        clear hac
        obtain ⟨ao1, cap1, hsv1⟩ := owned_shape HR2.out.1.seqs
        subst hsv1
        have hql : qs1.length = n := by
          have := congrArg List.length HQ1.out; simp at this; rw [this]; exact HST.out
        have hr3 := HR2.out.1
        rw [hql] at hr3
        have HR3 : Hid (RAt B b rest line num (.slice ao1 n cap1) qs1 bv1 [] w2 ∧ Below B w w2) := ⟨hr3, HR2.out.2⟩
        have hown := hr3.seqs
        rw [hql] at hown
        have HNa : Hid (Calls Try.prog 26 #[.slice ao1 n cap1, .string a] w2 fun e w' => e = .returned (.bool (namedB st (headB 32 s.data.toList))) ∧ Below w2.heap.size w2 w') := by
          have := named_calls ao1 n cap1 qs1 a w2 (owned_sqs hown)
          rw [named_rev HQ1.out, ha] at this
          exact this
        have hc3 := hr3.cell3
        have HAC : Hid (a.data.toList = headB 32 s.data.toList ∧ c.data.toList = tailB 32 s.data.toList) := ⟨ha, hc⟩
        have has : a.size ≤ 1048576 := by
          rw [← size_toList, ha]; exact Nat.le_trans (headB_length_le _ _) (by rw [size_toList]; exact hs)
        have hcs : c.size ≤ 1048576 := by
          rw [← size_toList, hc]; exact Nat.le_trans (tailB_length_le _ _) (by rw [size_toList]; omega)
        have HQL : Hid (qs1.length = n) := hql
        clear hr3 hown ha hc HR2 hql
        cases hnm : namedB st (headB 32 s.data.toList) with
        | true =>
          have HE : Hid (∀ w3, Below w2.heap.size w2 w3 → StepPost B b rest line num (beginB st s.data.toList) w (.returned (.bool false)) w3) := by
            intro w3 hb3
            rw [HNo.out (.inr (.inl hnm))]
            exact ⟨HR3.out.2.trans (hb3.mono (Nat.le_trans HR3.out.1.base (Nat.le_of_lt HR3.out.1.lt))), rfl, _, _, _, _, HR3.out.1.below hb3⟩
          rw [hnm] at HNa
          clear HNo HYes HR3 HQ1 hok hnm HOP HST HAC
          go_wp2_with (go_at_call 26; refine HNa.out.mono ?_; rintro e w3 ⟨rfl, hb3⟩)
          go_ret
          exact HE.out _ hb3
        | false =>
          rw [hnm] at HNa
          have HY : Hid (beginB st s.data.toList = some ((headB 32 s.data.toList, tailB 32 s.data.toList, []) :: st)) := HYes.out hok hnm (by omega) HOP.out
          clear HNo HYes hok hnm HOP
          go_wp2_with fail
          refine HNa.out.mono ?_
          rintro e w3 ⟨rfl, hb3⟩
          have HJ3 : Hid (RAt B b rest line num (.slice ao1 n cap1) qs1 bv1 [] w3 ∧ Below B w w3) := ⟨HR3.out.1.below hb3, HR3.out.2.trans (hb3.mono (Nat.le_trans HR3.out.1.base (Nat.le_of_lt HR3.out.1.lt)))⟩
          clear hb3 HNa hc3 HR3
          have HJB : Hid (∀ W W1, Hid (RAt B b rest line num (.slice ao1 n cap1) qs1 bv1 [] W ∧ Below B w W) → Below W.heap.size W W1 → Hid (RAt B b rest line num (.slice ao1 n cap1) qs1 bv1 [] W1 ∧ Below B w W1) ∧ W1.cell? ⟨b, 3, none⟩ = some (.slice ao1 n cap1) ∧ ∀ o, (W1.alloc o).cell? ⟨b, 3, none⟩ = some (.slice ao1 n cap1)) := by
            intro W W1 hJ hb
            have h1 := hJ.out.1.below hb
            exact ⟨⟨h1, hJ.out.2.trans (hb.mono (Nat.le_trans hJ.out.1.base (Nat.le_of_lt hJ.out.1.lt)))⟩, h1.cell3, fun o => (h1.alloc o).cell3⟩
          obtain ⟨HJd, hcd, hcda⟩ := HJB.out w3 w3.drew HJ3 (Below.refl _ _).drew
          have HCa : Hid (∀ w, Calls Try.prog 51 #[.string a] w fun e w' => e = .returned (.string a) ∧ Below w.heap.size w w') := fun w => clone_calls a w has
          have HCc : Hid (∀ w, Calls Try.prog 51 #[.string c] w fun e w' => e = .returned (.string c) ∧ Below w.heap.size w w') := fun w => clone_calls c w hcs
          obtain ⟨i0, hi, hz0, hz1, hz2⟩ := info_parts info29
          have HJO : Hid (∀ W o, Hid (RAt B b rest line num (.slice ao1 n cap1) qs1 bv1 [] W ∧ Below B w W) → (W.alloc o).ownsRow B 29 3 (.slice ao1 n cap1) n (rowCells qs1)) := by
            intro W o hJ
            have := (hJ.out.1.alloc o).seqs
            rw [HQL.out] at this
            exact this
          have HJS : Hid (∀ W o, Hid (RAt B b rest line num (.slice ao1 n cap1) qs1 bv1 [] W ∧ Below B w W) → B ≤ (W.alloc o).heap.size) := by
            intro W o hJ
            have h1 := (hJ.out.1.alloc o)
            exact Nat.le_trans h1.base (Nat.le_of_lt h1.lt)
          have HJE : Hid (∀ W o ao2 cap2 w4, Hid (RAt B b rest line num (.slice ao1 n cap1) qs1 bv1 [] W ∧ Below B w W) → w4.ownsRow B 29 3 (.slice ao2 (n + 1) cap2) (n + 1) (rowCells qs1 ++ [.string a, .string c, .string ⟨#[]⟩]) → (W.alloc o).grownBy w4 (Value.slice ao1 n cap1).ownBlock →
              w4.cell? ⟨b, 3, none⟩ = some (.slice ao1 n cap1) ∧ w4.frozen? ⟨b, 3, none⟩ = false ∧ Hid (StepPost B b rest line num (beginB st s.data.toList) w (.returned (.bool true)) (w4.setCell ⟨b, 3, none⟩ (.slice ao2 (n + 1) cap2)))) := by
            intro W o ao2 cap2 w4 hJ ho hg
            have hR := hJ.out.1.alloc o
            have ho2 : w4.ownsRow B 29 3 (.slice ao2 (n + 1) cap2) (qs1 ++ [((a, c, ⟨#[]⟩) : Sq)]).length (rowCells (qs1 ++ [((a, c, ⟨#[]⟩) : Sq)])) := by
              rw [rowCells_snoc, List.length_append, HQL.out]; exact ho
            obtain ⟨k1, k2, k3⟩ := hR.append3 hg ho2
            refine ⟨k1, k2, ?_⟩
            show StepPost _ _ _ _ _ _ _ _ _
            rw [HY.out]
            have hBW : B ≤ W.heap.size := Nat.le_trans hJ.out.1.base (Nat.le_of_lt hJ.out.1.lt)
            refine ⟨((hJ.out.2.alloc hBW o).grown hg (HJS.out W o hJ) (fun k hk => (hR.seqs.lt k hk).1)).setCell (p := (⟨b, 3, none⟩ : Addr)) hR.base _, rfl, _, _, _, _, k3, ?_, by simp, by simp [HST.out]; omega⟩
            have := Link.fresh HQ1.out a c
            rw [HAC.out.1, HAC.out.2] at this
            exact this
          have hc3 := HJ3.out.1.cell3
          clear HY HQ1 HST HAC HQL
          go_wp2_with fail
          go_region_law (first
            | (go_simp; go_at_call 51; refine (HCa.out _).mono ?_; rintro e W1 ⟨rfl, hb⟩; obtain ⟨HJ', hc', hca'⟩ := HJB.out _ _ (by assumption) hb; clear hb)
            | (go_simp; go_at_call 51; refine (HCc.out _).mono ?_; rintro e W1 ⟨rfl, hb⟩; obtain ⟨HJ', hc', hca'⟩ := HJB.out _ _ (by assumption) hb; clear hb)
            | (refine step_append_own rfl (.tmp 39) (.tmp 45) 23 rfl B 29 i0 _ 3 48 Try.underlying23 hi hz0 hz1 hz2 rfl (by decide) _ _ _ (by simp [Act.eval]) (HJO.out _ _ (by assumption)) ⟨_, 0, none⟩ 1 1 [.string a, .string c, .string ⟨#[]⟩] (by simp [Act.eval]) rfl (new_cells _ a c ⟨#[]⟩) (sq_oneCell (a, c, ⟨#[]⟩)) (by unfold maxLen; omega) (by omega) (HJS.out _ _ (by assumption)) ?_
               intro v' w4 ho hg
               obtain ⟨ao2, cap2, rfl⟩ := owned_shape ho
               obtain ⟨k1, k2, k3⟩ := HJE.out _ _ _ _ _ (by assumption) ho hg
               clear ho hg))
          all_goals (go_wp2; go_ret)
          all_goals assumption

theorem take_calls (B b : Nat) (rest line : ByteArray) (num : Nat) (st : List Pq) (s : ByteArray) (w : World) (h : Stands B b rest line num st w) (hs : s.size ≤ 1048576) :
    Calls Try.prog 18 #[.pointer (some ⟨b, 0, none⟩), .string s] w fun e w' => StepPost B b rest line num (stepB st s.data.toList) w e w' := by
  by_cases h0 : s.toList = []
  · have HE : Hid (StepPost B b rest line num (stepB st s.data.toList) w (.returned (.bool true)) w) := by
      show StepPost _ _ _ _ _ _ _ _ _
      rw [toList_nil.1 h0]
      exact ⟨Below.refl _ _, rfl, h⟩
    clear h
    go_enter Try.func18, Try.ntmps18
    go_wp2
    go_ret
    exact HE.out
  · have hp := toList_size h0
    have e1 : s.toList.isEmpty = false := by
      cases hr : s.toList with
      | nil => exact absurd hr h0
      | cons _ _ => rfl
    have hcons : s.data.toList = s[0] :: s.data.toList.drop 1 := by
      have := drop_cons s 0 hp; simpa using this
    have hex : (s.extract 1 s.size).data.toList = s.data.toList.drop 1 := by
      rw [extract_list, List.take_of_length_le (by simp)]
    by_cases hc : (s[0].toNat : Int) = 62
    · have hd : ((s[0].toNat : Int) == 62) = true := by simp [hc]
      have HB : Hid (Calls Try.prog 35 #[.pointer (some ⟨b, 0, none⟩), .string (s.extract 1 s.size)] w fun e w' => StepPost B b rest line num (stepB st s.data.toList) w e w') := by
        show Calls _ _ _ _ _
        have := begin_calls B b rest line num st (s.extract 1 s.size) w h (by rw [← size_toList, hex]; simp; omega)
        rw [hex] at this
        have e : stepB st s.data.toList = beginB st (s.data.toList.drop 1) := by
          rw [hcons]; simp only [stepB]; rw [if_pos (show s[0] = 62 from byte_is (n := 62) hc)]; simp
        rw [e]; exact this
      clear hc h hcons hex
      go_enter Try.func18, Try.ntmps18
      go_wp2_with fail
      refine HB.out.mono ?_
      rintro e w' hpost
      have HP : Hid (StepPost B b rest line num (stepB st s.data.toList) w e w') := hpost
      clear hpost
      cases ho : stepB st s.data.toList with
      | none =>
        have h2 := HP.out; rw [ho] at h2
        obtain ⟨_, rfl, _⟩ := h2
        go_wp2
        go_ret
        exact HP.out
      | some st' =>
        have h2 := HP.out; rw [ho] at h2
        obtain ⟨_, rfl, _⟩ := h2
        go_wp2
        go_ret
        exact HP.out
    · have hd : ((s[0].toNat : Int) == 62) = false := by simp [hc]
      have HB : Hid (Calls Try.prog 36 #[.pointer (some ⟨b, 0, none⟩), .string s] w fun e w' => StepPost B b rest line num (stepB st s.data.toList) w e w') := by
        show Calls _ _ _ _ _
        have := add_calls B b rest line num st s w h hs
        have e : stepB st s.data.toList = addB st s.data.toList := by
          rw [hcons]; simp only [stepB]; rw [if_neg (show ¬ s[0] = 62 from byte_ne (n := 62) (by decide) hc)]
        rw [e]; exact this
      clear hc h hcons hex
      go_enter Try.func18, Try.ntmps18
      go_wp2_with fail
      refine HB.out.mono ?_
      rintro e w' hpost
      have HP : Hid (StepPost B b rest line num (stepB st s.data.toList) w e w') := hpost
      clear hpost
      cases ho : stepB st s.data.toList with
      | none =>
        have h2 := HP.out; rw [ho] at h2
        obtain ⟨_, rfl, _⟩ := h2
        go_wp2
        go_ret
        exact HP.out
      | some st' =>
        have h2 := HP.out; rw [ho] at h2
        obtain ⟨_, rfl, _⟩ := h2
        go_wp2
        go_ret
        exact HP.out
end Go.Proofs.Ytcleejdlmamdhaa
