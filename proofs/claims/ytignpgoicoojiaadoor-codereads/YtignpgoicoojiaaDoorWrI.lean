/-
  The literal mark as a row that cannot be laid behind; the document's number and numbers over it.
-/
import Derived.Test.YtignpgoicoojiaaDoorWrC
import Derived.Test.YtignpgoicoojiaaDoorWrG
import Derived.Lib.SlBytesConst
namespace Go.Proofs.YtignpgoicoojiaaDoor
open Go.RowKit

def markC : Array Value := #[.int .u8 72, .int .u8 76, .int .u8 88, .int .u8 49]
/-- The bytes so far: a row of the call's own, or still the literal. -/
def BufG (B : Nat) (acc : List UInt8) (v : Value) (W : World) : Prop :=
  W.ownsRow B 5 1 v acc.length (byteVals acc) ∨ (acc = markB ∧ ∃ g, v = .slice (some ⟨g, 0, none⟩) 4 4 ∧ B ≤ g ∧ W.heap[g]? = some (.cells markC 5 (4, 5)))
theorem BufG.shape {B : Nat} {acc : List UInt8} {v : Value} {W : World} (h : BufG B acc v W) : ∃ ao cap, v = .slice ao acc.length cap := by
  rcases h with h | ⟨rfl, g, rfl, _, _⟩
  · exact owned_shape h
  · exact ⟨_, _, rfl⟩
theorem BufG.lt {B : Nat} {acc : List UInt8} {v : Value} {W : World} (h : BufG B acc v W) : ∀ k, v.ownBlock = some k → B ≤ k ∧ k < W.heap.size := by
  rcases h with h | ⟨rfl, g, rfl, hb, hg⟩
  · exact h.lt
  · intro k hk
    cases hk
    exact ⟨hb, lt_block hg⟩
theorem BufG.alloc {B : Nat} {acc : List UInt8} {v : Value} {W : World} (h : BufG B acc v W) (o : Obj) : BufG B acc v (W.alloc o) := by
  rcases h with h | ⟨rfl, g, rfl, hb, hg⟩
  · exact .inl (h.alloc o)
  · exact .inr ⟨rfl, g, rfl, hb, by rw [(below_new (w := W) o).block g (lt_block hg)]; exact hg⟩
theorem BufG.cells {B : Nat} {acc : List UInt8} {v : Value} {W : World} (h : BufG B acc v W) {g : Nat} (hv : v.ownBlock = some g) : ∀ j u, (byteVals acc)[j]? = some u → W.cell? ((⟨g, 0, none⟩ : Addr).add j) = some u := by
  rcases h with h | ⟨rfl, g', rfl, hb, hgg⟩
  · exact h.cells hv
  · intro j u hu
    cases hv
    have hadd : (⟨g', 0, none⟩ : Addr).add j = ⟨g', j, none⟩ := by unfold Addr.add; split <;> simp_all
    rw [hadd, cell_of_row W g' j _ 5 _ hgg]
    simpa [markC, markB, byteVals] using hu
theorem BufG.own {B : Nat} {acc : List UInt8} {v : Value} {W : World} (h : BufG B acc v W) (hl : 4 < acc.length) : W.ownsRow B 5 1 v acc.length (byteVals acc) := by
  rcases h with h | ⟨rfl, _⟩
  · exact h
  · exact absurd hl (by decide)
theorem not_ownG {w : World} {B b : Nat} {v : Value} {acc : List UInt8} (hv : BufG B acc v w) (h : b < B ∨ ∃ cs t f, w.heap[b]? = some (.cells cs t f) ∧ t ≠ 5) : some b ≠ v.ownBlock := by
  rcases hv with hv | ⟨rfl, g, rfl, hb, hg⟩
  · exact not_own hv h
  · intro e
    simp [Value.ownBlock] at e
    subst e
    rcases h with h | ⟨cs, t, f, h, ht⟩
    · omega
    · rw [hg] at h; cases h; exact ht rfl
theorem IntsB.grownG {B : Nat} {w w3 : World} {ao : Option Addr} {len : Nat} {zs : List Int} {v : Value} {acc : List UInt8} (h : IntsB B w ao len zs) (hv : BufG B acc v w) (hg : w.grownBy w3 v.ownBlock) : IntsB B w3 ao len zs := by
  refine ⟨⟨h.at'.length, h.at'.short, fun hl => ?_⟩, fun hl a ha => ?_⟩
  · obtain ⟨b, off, e, hc⟩ := h.at'.cells hl
    refine ⟨b, off, e, fun i hi => ?_⟩
    have hci := hc i hi
    rw [World.cell?_of_block (hg.block b (World.block_lt_of_cell? w _ hci) (not_ownG hv (h.out hl _ e)))]
    exact hci
  · rcases h.out hl a ha with h1 | ⟨cs, t, f, h1, ht⟩
    · exact .inl h1
    · exact .inr ⟨cs, t, f, by rw [hg.block a.block (lt_block h1) (not_ownG hv (.inr ⟨cs, t, f, h1, ht⟩))]; exact h1, ht⟩
/-- One byte behind what is laid down. -/
theorem wpList_append_bufG {w : World} {ops : Array Oper} {rest : List Oper} {o : Oper} {a : Act} {Q : Exit → Act → World → Prop} (hgd : o.guard = none) (sl x : Operand)
    (ho : o.op = .call { callee := .builtin .append, args := #[sl, x], argTypes := #[42, 42] }) (B : Nat) (v : Value) (acc : List UInt8) (hs : a.eval sl = v) (hown : BufG B acc v w) (ad : Addr) (c : UInt8) (hx : a.eval x = .slice (some ad) 1 1)
    (hnews : ∀ (j : Nat) u, [Value.int .u8 (c.toNat : Int)][j]? = some u → w.cell? (ad.add j) = some u)
    (hbytes : acc.length + 1 ≤ 140737488355328) (hbase : B ≤ w.heap.size)
    (h : ∀ v' w', w'.ownsRow B 5 1 v' (acc.length + 1) (byteVals acc ++ [.int .u8 (c.toNat : Int)]) → w.grownBy w' v.ownBlock → wpList Tryd.prog ops Q rest (a.put o.dst v') w') : wpList Tryd.prog ops Q (o :: rest) a w := by
  obtain ⟨i, hi, hz, hsize, hby⟩ := info_parts info5
  rcases hown with hown | hown
  · exact wpList_append_own _ hgd sl x 42 ho B 5 i (.int .u8 0) 1 1 Tryd.underlying42 hi hz hsize hby rfl (by decide) v _ _ hs hown ad 1 1 [.int .u8 (c.toNat : Int)] hx rfl hnews (one_cell c) (by unfold maxLen; omega) (by omega) hbase (fun v' w' h1 h2 _ => h v' w' h1 h2)
  · have hB : BufG B acc v w := .inr hown
    obtain ⟨rfl, g, rfl, hb, hgg⟩ := hown
    refine wpList_plain hgd fun K hK => ?_
    have hxl : (byteVals markB).length = 4 := rfl
    have hlen : (byteVals markB ++ [Value.int .u8 (c.toNat : Int)]).length = (4 + 1) * 1 := by rw [List.length_append, hxl]; rfl
    have hr := run_append_grow (P := Tryd.prog) w 42 o.type 5 i (.int .u8 0) Tryd.underlying42 hi hz ⟨g, 0, none⟩ 4 4 (byteVals markB) (by rw [hsize]; rfl) (hB.cells rfl) ad 1 1 [.int .u8 (c.toNat : Int)] (by rw [hsize]; rfl) hnews (by omega) (by omega) (by rw [hby]; exact growslice_fits (by omega) (by omega))
    have hge := grownCap_ge w (4 + 1) 4 5
    have hcm : grownCap w (4 + 1) 4 5 ≤ maxLen := grownCap_le_maxLen w (4 + 1) 4 5 (by unfold maxLen; omega)
    unfold Oper.wp execOp
    simp only [ho, resolve, invoke, builtin, Sem.run_bind, Sem.run_pure, Result.andThen_ok, List.map_toArray, List.map_cons, List.map_nil, hs, hx, hr]
    refine hK _ _ (h _ _ ⟨hlen, .inr ⟨w.heap.size, _, _, rfl, hbase, heap_alloc_new w.drew _, hge, hcm, ?_, ?_⟩⟩ ⟨rfl, rfl, rfl, by simp, fun k hk _ => (below_new (w := w.drew) _).block k hk⟩)
    · have hz1 : (Value.int IntKind.u8 0).cells.size = 1 := rfl
      simp only [Array.size_append, List.size_toArray, size_zeroCells, hz1, hxl, List.length_cons, List.length_nil]
      omega
    · simp only [Array.toList_append, List.append_assoc]
      rw [← List.append_assoc, show markB.length = 4 from rfl, ← hlen]
      exact List.take_left
theorem mark_own (W : World) (B : Nat) (hB : B ≤ W.heap.size) : BufG B markB (.slice (some ⟨W.heap.size, 0, none⟩) 4 4) (W.alloc (.cells markC 5 (4, 5))) :=
  .inr ⟨rfl, W.heap.size, rfl, hB, heap_alloc_new W _⟩
theorem below_appendG {w w3 : World} {B : Nat} {v : Value} {acc : List UInt8} {o : Obj} (h : BufG B acc v w) (hB : B ≤ w.heap.size) (hg : (w.alloc o).grownBy w3 v.ownBlock) : Below B w w3 :=
  (((Below.refl B w).alloc hB o).grown hg (by simp; omega) (fun k hk => (h.lt k hk).1))
def BufC (B : Nat) (acc : List UInt8) (v : Value) (w w' : World) : Prop := BufG B acc v w' ∧ Below B w w'
theorem BufC.snoc {B : Nat} {acc : List UInt8} {v v' : Value} {w wr w3 : World} {c : UInt8} {o : Obj} (h : BufC B acc v w wr) (hB : B ≤ wr.heap.size) (ho : w3.ownsRow B 5 1 v' (acc.length + 1) (byteVals acc ++ [.int .u8 (c.toNat : Int)])) (hg : (wr.alloc o).grownBy w3 v.ownBlock) : BufC B (acc ++ [c]) v' w w3 := by
  refine ⟨.inl ?_, h.2.trans (below_appendG h.1 hB hg)⟩
  rw [byteVals_append, List.length_append]
  exact ho
theorem BufC.own {B : Nat} {acc : List UInt8} {v : Value} {w w' : World} (h : BufC B acc v w w') (hl : 4 < acc.length) : BufAt B acc v w w' := ⟨h.1.own hl, h.2⟩
theorem BufAt.c {B : Nat} {acc : List UInt8} {v : Value} {w w' : World} (h : BufAt B acc v w w') : BufC B acc v w w' := ⟨.inl h.1, h.2⟩

set_option maxHeartbeats 2000000 in
theorem refNumberG (B : Nat) (acc : List UInt8) (av : Option Addr) (cv : Nat) (z : Int) (w : World) (hv : BufG B acc (.slice av acc.length cv) w) (hB : B ≤ w.heap.size) (hn : okN z) (hlen : acc.length + 9 ≤ 1099511627776) :
    Calls Tryd.prog 33 #[.slice av acc.length cv, .int .i64 z] w fun e w' => ∃ v', e = .returned v' ∧ BufC B (acc ++ numB z) v' w w' ∧ ∀ (ao : Option Addr) (len : Nat) (zs : List Int), IntsB B w ao len zs → IntsB B w' ao len zs := by
  have hdl := dbl_le hn
  have hnl := numB_len hn
  obtain ⟨m0, hm0⟩ : ∃ m0, dbl z = m0 := ⟨_, rfl⟩
  obtain ⟨goal, hgoal⟩ : ∃ g, acc ++ numB z = g := ⟨_, rfl⟩
  have hlg : goal.length ≤ acc.length + 9 := by rw [← hgoal]; simp; omega
  have H0 : Hid (BufC B acc (.slice av acc.length cv) w w ∧ acc ++ digs m0 = goal) := ⟨⟨hv, Below.refl _ _⟩, by rw [← hgoal, ← hm0]; rfl⟩
  have HQ : Hid (acc ++ numB z = goal) := hgoal
  have hzz : (z < 0 → -(2 * z) - 1 = (m0 : Int)) ∧ (¬ z < 0 → 2 * z = (m0 : Int)) := by
    rw [← hm0]; unfold dbl
    refine ⟨fun h => ?_, fun h => ?_⟩
    · rw [if_pos h]; omega
    · rw [if_neg h]; omega
  rw [hm0] at hdl
  rw [hgoal]
  unfold okN at hn
  clear hv hm0 hgoal hnl
  by_cases h0 : z < 0
  · have hz1' := hzz.1 h0
    clear hzz
    go_enter Tryd.func33, Tryd.ntmps33
    go_wp2
    go_loopw [0, 5] (fun v r wq => ∃ (m : Nat) (ac : List UInt8), m ≤ 2305843009213693952 ∧ r = .int .i64 m ∧ BufC B ac v w wq ∧ (∀ (ao : Option Addr) (len : Nat) (zs : List Int), IntsB B w ao len zs → IntsB B wq ao len zs) ∧ Hid (ac ++ digs m = goal)) (fun _ r _ => (intOf r).toNat)
    case atStart => exact ⟨m0, acc, hdl, rfl, H0.out.1, fun _ _ _ h => h, H0.out.2⟩
    case round =>
      obtain ⟨m, ac, hm2, rfl, hbk, hin, HG⟩ := hrel
      obtain ⟨ak, cak, rfl⟩ := hbk.1.shape
      have hsk := hbk.2.size
      have hla : ac.length + 1 ≤ goal.length := by
        have := congrArg List.length HG.out
        have h1 := digs_pos m
        simp at this; omega
      have HBk : Hid (BufC B ac (.slice ak ac.length cak) w wr ∧ ∀ (ao : Option Addr) (len : Nat) (zs : List Int), IntsB B w ao len zs → IntsB B wr ao len zs) := ⟨hbk, hin⟩
      clear hbk hin H0
      by_cases h128 : m < 128
      · have hdm : decide ((127 : Int) < (m : Int)) = false := by simp; omega
        have HG2 : Hid (ac ++ [UInt8.ofNat m] = goal) := by have := HG.out; rw [digs_small h128] at this; exact this
        have hbm := byte_of m (by omega)
        clear HG
        generalize UInt8.ofNat m = c at HG2 hbm
        go_wp2_with (at_builtin; go_loud (refine wpList_append_bufG rfl _ _ rfl B (.slice ak ac.length cak) ac rfl (HBk.out.1.1.alloc _) ⟨_, 0, none⟩ c rfl ?c1 ?c4 ?c5 ?_))
        case c1 =>
          intro i u hu
          match i, hu with
          | 0, hu => simp at hu; subst hu; simp [Addr.add, hbm]
        case c4 => omega
        case c5 => simp; omega
        intro v' w3 hown' hgrow
        have HB3 : Hid (BufC B (ac ++ [c]) v' w w3 ∧ ∀ (ao : Option Addr) (len : Nat) (zs : List Int), IntsB B w ao len zs → IntsB B w3 ao len zs) := ⟨HBk.out.1.snoc (by omega) (by rw [hbm]; exact hown') hgrow, fun ao len zs h => ((HBk.out.2 ao len zs h).alloc _).grownG (HBk.out.1.1.alloc _) hgrow⟩
        clear hown' hgrow
        go_wp2
        go_ret
        exact ⟨v', rfl, by rw [← HG2.out]; exact HB3.out.1, HB3.out.2⟩
      · have hdm : decide ((127 : Int) < (m : Int)) = true := by simp; omega
        have HG2 : Hid (ac ++ [UInt8.ofNat (m % 128 + 128)] ++ digs (m / 128) = goal) := by have := HG.out; rw [digs_big h128] at this; rw [← this]; show _ = _; simp
        have hbm := low_digit' m
        clear HG
        generalize UInt8.ofNat (m % 128 + 128) = c at HG2 hbm
        go_wp2_with (at_builtin; go_loud (refine wpList_append_bufG rfl _ _ rfl B (.slice ak ac.length cak) ac rfl (HBk.out.1.1.alloc _) ⟨_, 0, none⟩ c rfl ?c1 ?c4 ?c5 ?_))
        case c1 =>
          intro i u hu
          match i, hu with
          | 0, hu => simp at hu; subst hu; simp [Addr.add, hbm]
        case c4 => omega
        case c5 => simp; omega
        intro v' w3 hown' hgrow
        have HB3 : Hid (BufC B (ac ++ [c]) v' w w3 ∧ ∀ (ao : Option Addr) (len : Nat) (zs : List Int), IntsB B w ao len zs → IntsB B w3 ao len zs) := ⟨HBk.out.1.snoc (by omega) (by rw [hbm]; exact hown') hgrow, fun ao len zs h => ((HBk.out.2 ao len zs h).alloc _).grownG (HBk.out.1.1.alloc _) hgrow⟩
        clear hown' hgrow
        go_wp2
        go_roundw
        case rel => exact ⟨m / 128, ac ++ [c], by omega, by go_num, HB3.out.1, HB3.out.2, HG2.out⟩
        case measure => simp [intOf]; omega
  · have hz1' := hzz.2 h0
    clear hzz
    go_enter Tryd.func33, Tryd.ntmps33
    go_wp2
    go_loopw [0, 5] (fun v r wq => ∃ (m : Nat) (ac : List UInt8), m ≤ 2305843009213693952 ∧ r = .int .i64 m ∧ BufC B ac v w wq ∧ (∀ (ao : Option Addr) (len : Nat) (zs : List Int), IntsB B w ao len zs → IntsB B wq ao len zs) ∧ Hid (ac ++ digs m = goal)) (fun _ r _ => (intOf r).toNat)
    case atStart => exact ⟨m0, acc, hdl, rfl, H0.out.1, fun _ _ _ h => h, H0.out.2⟩
    case round =>
      obtain ⟨m, ac, hm2, rfl, hbk, hin, HG⟩ := hrel
      obtain ⟨ak, cak, rfl⟩ := hbk.1.shape
      have hsk := hbk.2.size
      have hla : ac.length + 1 ≤ goal.length := by
        have := congrArg List.length HG.out
        have h1 := digs_pos m
        simp at this; omega
      have HBk : Hid (BufC B ac (.slice ak ac.length cak) w wr ∧ ∀ (ao : Option Addr) (len : Nat) (zs : List Int), IntsB B w ao len zs → IntsB B wr ao len zs) := ⟨hbk, hin⟩
      clear hbk hin H0
      by_cases h128 : m < 128
      · have hdm : decide ((127 : Int) < (m : Int)) = false := by simp; omega
        have HG2 : Hid (ac ++ [UInt8.ofNat m] = goal) := by have := HG.out; rw [digs_small h128] at this; exact this
        have hbm := byte_of m (by omega)
        clear HG
        generalize UInt8.ofNat m = c at HG2 hbm
        go_wp2_with (at_builtin; go_loud (refine wpList_append_bufG rfl _ _ rfl B (.slice ak ac.length cak) ac rfl (HBk.out.1.1.alloc _) ⟨_, 0, none⟩ c rfl ?c1 ?c4 ?c5 ?_))
        case c1 =>
          intro i u hu
          match i, hu with
          | 0, hu => simp at hu; subst hu; simp [Addr.add, hbm]
        case c4 => omega
        case c5 => simp; omega
        intro v' w3 hown' hgrow
        have HB3 : Hid (BufC B (ac ++ [c]) v' w w3 ∧ ∀ (ao : Option Addr) (len : Nat) (zs : List Int), IntsB B w ao len zs → IntsB B w3 ao len zs) := ⟨HBk.out.1.snoc (by omega) (by rw [hbm]; exact hown') hgrow, fun ao len zs h => ((HBk.out.2 ao len zs h).alloc _).grownG (HBk.out.1.1.alloc _) hgrow⟩
        clear hown' hgrow
        go_wp2
        go_ret
        exact ⟨v', rfl, by rw [← HG2.out]; exact HB3.out.1, HB3.out.2⟩
      · have hdm : decide ((127 : Int) < (m : Int)) = true := by simp; omega
        have HG2 : Hid (ac ++ [UInt8.ofNat (m % 128 + 128)] ++ digs (m / 128) = goal) := by have := HG.out; rw [digs_big h128] at this; rw [← this]; show _ = _; simp
        have hbm := low_digit' m
        clear HG
        generalize UInt8.ofNat (m % 128 + 128) = c at HG2 hbm
        go_wp2_with (at_builtin; go_loud (refine wpList_append_bufG rfl _ _ rfl B (.slice ak ac.length cak) ac rfl (HBk.out.1.1.alloc _) ⟨_, 0, none⟩ c rfl ?c1 ?c4 ?c5 ?_))
        case c1 =>
          intro i u hu
          match i, hu with
          | 0, hu => simp at hu; subst hu; simp [Addr.add, hbm]
        case c4 => omega
        case c5 => simp; omega
        intro v' w3 hown' hgrow
        have HB3 : Hid (BufC B (ac ++ [c]) v' w w3 ∧ ∀ (ao : Option Addr) (len : Nat) (zs : List Int), IntsB B w ao len zs → IntsB B w3 ao len zs) := ⟨HBk.out.1.snoc (by omega) (by rw [hbm]; exact hown') hgrow, fun ao len zs h => ((HBk.out.2 ao len zs h).alloc _).grownG (HBk.out.1.1.alloc _) hgrow⟩
        clear hown' hgrow
        go_wp2
        go_roundw
        case rel => exact ⟨m / 128, ac ++ [c], by omega, by go_num, HB3.out.1, HB3.out.2, HG2.out⟩
        case measure => simp [intOf]; omega

set_option maxHeartbeats 2000000 in
theorem refNumbersG (B : Nat) (acc : List UInt8) (av : Option Addr) (cv : Nat) (ao : Option Addr) (len cap : Nat) (zs : List Int) (w : World) (hv : BufG B acc (.slice av acc.length cv) w) (hB : B ≤ w.heap.size) (hz : IntsB B w ao len zs) (hn : ∀ z ∈ zs, okN z) (hlen : acc.length + 9 * len ≤ 1099511627776) :
    Calls Tryd.prog 32 #[.slice av acc.length cv, .slice ao len cap] w fun e w' => ∃ v', e = .returned v' ∧ BufC B (acc ++ numsB zs) v' w w' := by
  have hm := hz.at'.short
  unfold maxLen at hm
  have HL : Hid (zs.length = len) := hz.at'.length
  have HN : Hid (∀ z ∈ zs, okN z) := hn
  have H0 : Hid (BufC B (acc ++ numsB (zs.take 0)) (.slice av acc.length cv) w w ∧ IntsB B w ao len zs) := by
    refine ⟨⟨?_, Below.refl _ _⟩, hz⟩
    simpa [numsB] using hv
  clear hv hz hn
  go_enter Tryd.func32, Tryd.ntmps32
  go_wp2
  go_loopw [0, 5] (fun v i wq => ∃ k : Nat, k ≤ len ∧ i = .int .i64 k ∧ BufC B (acc ++ numsB (zs.take k)) v w wq ∧ IntsB B wq ao len zs) (fun _ i _ => len - (intOf i).toNat)
  case atStart => exact ⟨0, Nat.zero_le _, rfl, H0.out.1, H0.out.2⟩
  case round =>
    obtain ⟨k, hk, rfl, hbu, hin⟩ := hrel
    clear H0
    have hsz : w.heap.size ≤ wr.heap.size := hbu.2.size
    by_cases hlt : k < len
    · obtain ⟨b, off, rfl, hcs⟩ := hin.at'.cells (by omega)
      have hc1 := hcs k hlt
      clear hcs
      have HT : Hid (acc ++ numsB (zs.take (k + 1)) = acc ++ numsB (zs.take k) ++ numB (zs.getD k 0)) := by
        show _ = _
        rw [numsB_take (by rw [HL.out]; exact hlt), List.append_assoc]
      have hok : okN (zs.getD k 0) := HN.out _ (by
        have : k < zs.length := by rw [HL.out]; exact hlt
        simp [List.getD, List.getElem?_eq_getElem this])
      have hl1 : (acc ++ numsB (zs.take k)).length ≤ acc.length + 9 * k := by
        have := numsB_len (l := zs.take k) (fun z hz => HN.out z (List.mem_of_mem_take hz))
        simp at this ⊢; omega
      generalize zs.getD k 0 = z at hc1 HT hok
      generalize acc ++ numsB (zs.take k) = bc at hbu hl1 HT
      obtain ⟨ak, cak, rfl⟩ := hbu.1.shape
      have HD := refNumberG B bc ak cak z wr hbu.1 (by omega) hok (by omega)
      have HDD : Hid (Calls Tryd.prog 33 #[.slice ak bc.length cak, .int .i64 z] wr fun e w' => ∃ v', e = .returned v' ∧ BufC B (bc ++ numB z) v' wr w' ∧ ∀ (ao : Option Addr) (len : Nat) (zs : List Int), IntsB B wr ao len zs → IntsB B w' ao len zs) := HD
      have HI : Hid (IntsB B wr (some ⟨b, off, none⟩) len zs ∧ Below B w wr) := ⟨hin, hbu.2⟩
      clear hbu hin hok HD
      go_wp2_with (go_at_call 33; refine HDD.out.mono ?_; rintro e w1 ⟨v1, rfl, hb1, hkp⟩)
      have HB1 : Hid (BufC B (bc ++ numB z) v1 w w1 ∧ IntsB B w1 (some ⟨b, off, none⟩) len zs) := ⟨⟨hb1.1, HI.out.2.trans hb1.2⟩, hkp _ _ _ HI.out.1⟩
      clear hb1 hkp
      go_roundw
      case rel => exact ⟨k + 1, by omega, by go_num, by rw [HT.out]; exact HB1.out.1, HB1.out.2⟩
      case measure => simp [intOf]; omega
    · have HE : Hid (zs.take k = zs) := List.take_of_length_le (by rw [HL.out]; omega)
      obtain ⟨ak, cak, rfl⟩ := hbu.1.shape
      have HBu : Hid (BufC B (acc ++ numsB zs) (.slice ak (acc ++ numsB (zs.take k)).length cak) w wr) := by
        have := hbu
        rw [HE.out] at this ⊢
        exact this
      clear hbu hin
      go_wp2
      go_ret
      exact ⟨_, rfl, HBu.out⟩

end Go.Proofs.YtignpgoicoojiaaDoor
