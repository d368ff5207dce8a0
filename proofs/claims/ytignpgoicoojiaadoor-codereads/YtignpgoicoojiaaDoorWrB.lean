/-
  The walks of laid, and the document's number and numbers.
-/
import Derived.Test.YtignpgoicoojiaaDoorWrA
namespace Go.Proofs.YtignpgoicoojiaaDoor
open Go.RowKit

theorem digs_len : ∀ (k m : Nat), m < 128 ^ (k + 1) → (digs m).length ≤ k + 1
  | 0, m, h => by rw [digs_small (by omega)]; simp
  | k + 1, m, h => by
    by_cases hm : m < 128
    · rw [digs_small hm]; simp
    · rw [digs_big hm]
      have := digs_len k (m / 128) (by rw [Nat.pow_succ] at h; omega)
      simp; omega
theorem digs_pos (m : Nat) : 1 ≤ (digs m).length := by
  by_cases hm : m < 128
  · rw [digs_small hm]; simp
  · rw [digs_big hm]; simp
theorem numB_len {z : Int} (h : okN z) : (numB z).length ≤ 9 := digs_len 8 _ (by have := dbl_le h; omega)
theorem numsB_len : ∀ {l : List Int}, (∀ z ∈ l, okN z) → (numsB l).length ≤ 9 * l.length
  | [], _ => by simp [numsB]
  | z :: l, h => by
    have h1 := numB_len (h z (by simp))
    have h2 := numsB_len (l := l) (fun y hy => h y (by simp [hy]))
    simp [numsB] at h2 ⊢; omega
theorem numsB_take {zs : List Int} {k : Nat} (h : k < zs.length) : numsB (zs.take (k + 1)) = numsB (zs.take k) ++ numB (zs.getD k 0) := by
  rw [List.take_add_one, List.getElem?_eq_getElem h, List.getD, List.getElem?_eq_getElem h]
  simp only [numsB, List.flatMap_append, Option.toList, Option.getD]
  simp

/-- Numbers in a row that a row of bytes is apart from. -/
structure IntsB (B : Nat) (w : World) (ao : Option Addr) (len : Nat) (zs : List Int) : Prop where
  at' : IntsAt w ao len zs
  out : 0 < len → ∀ a, ao = some a → a.block < B ∨ ∃ cs t f, w.heap[a.block]? = some (.cells cs t f) ∧ t ≠ 5
theorem IntsB.of {B : Nat} {w : World} {ao : Option Addr} {len : Nat} {zs : List Int} (h : IntsAt w ao len zs) {w0 : World} (h0 : IntsAt w0 ao len zs) (hB : w0.heap.size ≤ B) : IntsB B w ao len zs := by
  refine ⟨h, fun hl a ha => .inl ?_⟩
  obtain ⟨b, off, e, hc⟩ := h0.cells hl
  rw [e] at ha; cases ha
  have h1 : b < w0.heap.size := World.block_lt_of_cell? w0 _ (hc 0 hl)
  exact Nat.lt_of_lt_of_le h1 hB
theorem IntsB.new {B : Nat} {w : World} {g len : Nat} {zs : List Int} (h : IntsAt w (some ⟨g, 0, none⟩) len zs) {cs : Array Value} {f : Nat × Nat} (hg : w.heap[g]? = some (.cells cs 3 f)) : IntsB B w (some ⟨g, 0, none⟩) len zs := by
  refine ⟨h, fun _ a ha => .inr ?_⟩
  cases ha
  exact ⟨cs, 3, f, hg, by decide⟩
theorem not_own {w : World} {B n b : Nat} {v : Value} {xs : List Value} (hv : w.ownsRow B 5 1 v n xs) (h : b < B ∨ ∃ cs t f, w.heap[b]? = some (.cells cs t f) ∧ t ≠ 5) : some b ≠ v.ownBlock := by
  intro e
  rcases hv.2 with ⟨rfl, _⟩ | ⟨g, cap, cur, rfl, hb, hg, _⟩
  · cases e
  · simp [Value.ownBlock] at e
    subst e
    rcases h with h | ⟨cs, t, f, h, ht⟩
    · omega
    · rw [hg] at h; cases h; exact ht rfl
theorem IntsB.grown {B n : Nat} {w w3 : World} {ao : Option Addr} {len : Nat} {zs : List Int} {v : Value} {xs : List Value} (h : IntsB B w ao len zs) (hv : w.ownsRow B 5 1 v n xs) (hg : w.grownBy w3 v.ownBlock) : IntsB B w3 ao len zs := by
  refine ⟨⟨h.at'.length, h.at'.short, fun hl => ?_⟩, fun hl a ha => ?_⟩
  · obtain ⟨b, off, e, hc⟩ := h.at'.cells hl
    refine ⟨b, off, e, fun i hi => ?_⟩
    have hci := hc i hi
    rw [World.cell?_of_block (hg.block b (World.block_lt_of_cell? w _ hci) (not_own hv (h.out hl _ e)))]
    exact hci
  · rcases h.out hl a ha with h1 | ⟨cs, t, f, h1, ht⟩
    · exact .inl h1
    · exact .inr ⟨cs, t, f, by rw [hg.block a.block (lt_block h1) (not_own hv (.inr ⟨cs, t, f, h1, ht⟩))]; exact h1, ht⟩
theorem IntsB.alloc {B : Nat} {w : World} {ao : Option Addr} {len : Nat} {zs : List Int} (h : IntsB B w ao len zs) (o : Obj) : IntsB B (w.alloc o) ao len zs := by
  refine ⟨h.at'.below (below_new o), fun hl a ha => ?_⟩
  rcases h.out hl a ha with h1 | ⟨cs, t, f, h1, ht⟩
  · exact .inl h1
  · exact .inr ⟨cs, t, f, by rw [(below_new (w := w) o).block a.block (lt_block h1)]; exact h1, ht⟩
theorem byte_of (m : Nat) (h : m < 256) : ((UInt8.ofNat m).toNat : Int) = (m : Int) := by
  rw [UInt8.toNat_ofNat']; omega
theorem low_digit (m : Nat) : ((UInt8.ofNat (m % 128 + 128)).toNat : Int) = ((m : Int) % 128 + 128) := by
  rw [byte_of _ (by omega)]; omega

set_option maxHeartbeats 2000000 in
theorem laid_calls (B : Nat) (acc : List UInt8) (av : Option Addr) (cv : Nat) (ao : Option Addr) (len cap : Nat) (zs : List Int) (w : World) (hv : w.ownsRow B 5 1 (.slice av acc.length cv) acc.length (byteVals acc)) (hB : B ≤ w.heap.size) (hz : IntsB B w ao len zs) (hn : ∀ z ∈ zs, okN z) (hlen : acc.length + 9 * len ≤ 1099511627776) :
    Calls Tryd.prog 42 #[.slice av acc.length cv, .slice ao len cap] w fun e w' => ∃ v', e = .returned v' ∧ BufAt B (acc ++ numsB zs) v' w w' := by
  obtain ⟨i0, hi, hz0, hz1, hz2⟩ := info_parts info5
  have hm := hz.at'.short
  unfold maxLen at hm
  have HL : Hid (zs.length = len) := hz.at'.length
  have HN : Hid (∀ z ∈ zs, okN z) := hn
  have H0 : Hid (BufAt B (acc ++ numsB (zs.take 0)) (.slice av acc.length cv) w w ∧ IntsB B w ao len zs) := by
    refine ⟨⟨?_, Below.refl _ _⟩, hz⟩
    simpa [numsB] using hv
  clear hv hz hn
  go_enter Tryd.func42, Tryd.ntmps42
  go_wp2
  go_loopw [0, 6, 7, 10] (fun v _ _ i wq => ∃ k : Nat, k ≤ len ∧ i = .int .i64 k ∧ BufAt B (acc ++ numsB (zs.take k)) v w wq ∧ IntsB B wq ao len zs) (fun _ _ _ i _ => len - (intOf i).toNat)
  case atStart => exact ⟨0, Nat.zero_le _, rfl, H0.out.1, H0.out.2⟩
  case round =>
    obtain ⟨k, hk, rfl, hbu, hin⟩ := hrel
    clear H0
    have hsz : w.heap.size ≤ wr.heap.size := hbu.2.size
    by_cases hlt : k < len
    · obtain ⟨b, off, rfl, hcs⟩ := hin.at'.cells (by omega)
      have hc1 := hcs k hlt
      clear hcs
      have HT : Hid (acc ++ numsB (zs.take (k + 1)) = acc ++ numsB (zs.take k) ++ numB (zs.getD k 0)) := by
        show _ = _
        rw [numsB_take (by rw [HL.out]; exact hlt), List.append_assoc]
      have hok : okN (zs.getD k 0) := HN.out _ (by
        have : k < zs.length := by rw [HL.out]; exact hlt
        simp [List.getD, List.getElem?_eq_getElem this])
      have hl1 : (acc ++ numsB (zs.take k)).length ≤ acc.length + 9 * k := by
        have := numsB_len (l := zs.take k) (fun z hz => HN.out z (List.mem_of_mem_take hz))
        simp at this ⊢; omega
      generalize zs.getD k 0 = z at hc1 HT hok
      generalize acc ++ numsB (zs.take k) = bc at hbu hl1 HT
      have hdl := dbl_le hok
      have hnl := numB_len hok
      have HD : Hid (Calls Tryd.prog 52 #[.int .i64 z] wr fun e w' => e = .returned (.int .u64 (dbl z : Int)) ∧ wr = w') := doubled_calls z wr hok
      have HI : Hid (BufAt B (bc ++ []) (v := _) w wr ∧ (bc ++ []) ++ digs (dbl z) = bc ++ numB z ∧ IntsB B wr (some ⟨b, off, none⟩) len zs) := ⟨by rw [List.append_nil]; exact hbu, by rw [List.append_nil]; rfl, hin⟩
      obtain ⟨ak, cak, hak⟩ := owned_shape hbu.1
      rw [hak] at HI
      clear hbu hin hok
      have hlt2 : (bc ++ numB z).length ≤ acc.length + 9 * k + 9 := by simp; omega
      generalize bc ++ numB z = goal at HI HT hlt2
      generalize dbl z = m0 at HD HI hdl
      rw [List.append_nil] at HI
      subst hak
      clear hnl
      go_wp2_with (go_at_call 52; refine HD.out.mono ?_; rintro e w1 ⟨rfl, rfl⟩)
      obtain ⟨wo, hwo⟩ : ∃ wo, wo = wr := ⟨_, rfl⟩
      go_loopw [0, 7] (fun v r wq => ∃ (m : Nat) (ac : List UInt8), m ≤ 2305843009213693952 ∧ r = .int .u64 m ∧ BufAt B ac v w wq ∧ IntsB B wq (some ⟨b, off, none⟩) len zs ∧ Hid (ac ++ digs m = goal)) (fun _ r _ => (intOf r).toNat)
      case atStart => exact ⟨m0, bc, hdl, rfl, HI.out.1, HI.out.2.2, HI.out.2.1⟩
      case round =>
        obtain ⟨m, ac, hm2, rfl, hbk, hin, HG⟩ := hrel
        obtain ⟨ak, cak, rfl⟩ := owned_shape hbk.1
        have hsk := hbk.2.size
        have hla : ac.length + 1 ≤ goal.length := by
          have := congrArg List.length HG.out
          have h1 := digs_pos m
          simp at this; omega
        have HBk : Hid (BufAt B ac (.slice ak ac.length cak) w wr ∧ IntsB B wr (some ⟨b, off, none⟩) len zs) := ⟨hbk, hin⟩
        clear hbk hin HI HD hwo
        by_cases h128 : m < 128
        · have hdm : decide ((128 : Int) ≤ (m : Int)) = false := by simp; omega
          have HG2 : Hid (ac ++ [UInt8.ofNat m] = goal) := by have := HG.out; rw [digs_small h128] at this; exact this
          have hbm := byte_of m (by omega)
          clear HG
          generalize UInt8.ofNat m = c at HG2 hbm
          go_wp2_with (at_builtin; go_loud (refine wpList_append_own _ rfl _ _ 42 rfl B 5 i0 (.int .u8 0) 1 1 Tryd.underlying42 hi hz0 hz1 hz2 rfl (by decide) (.slice ak ac.length cak) _ _ rfl (HBk.out.1.1.alloc _) ⟨_, 0, none⟩ 1 1 [.int .u8 (c.toNat : Int)] rfl rfl ?c1 (one_cell c) ?c3 ?c4 ?c5 ?_))
          case c1 =>
            intro i u hu
            match i, hu with
            | 0, hu => simp at hu; subst hu; simp [Addr.add, hbm]
          case c3 => unfold maxLen; omega
          case c4 => omega
          case c5 => simp; omega
          intro v' w3 hown' hgrow _
          have HB3 : Hid (BufAt B (ac ++ [c]) v' w w3 ∧ IntsB B w3 (some ⟨b, off, none⟩) len zs) := ⟨HBk.out.1.snoc (by omega) (by rw [hbm]; exact hown') hgrow, (HBk.out.2.alloc _).grown (HBk.out.1.1.alloc _) hgrow⟩
          clear hown' hgrow
          go_wp2
          go_roundw
          case rel => exact ⟨k + 1, by omega, by go_num, by rw [HT.out, ← HG2.out]; exact HB3.out.1, HB3.out.2⟩
          case measure => simp [intOf]; omega
        · have hdm : decide ((128 : Int) ≤ (m : Int)) = true := by simp; omega
          have HG2 : Hid (ac ++ [UInt8.ofNat (m % 128 + 128)] ++ digs (m / 128) = goal) := by have := HG.out; rw [digs_big h128] at this; rw [← this]; show _ = _; simp
          have hbm := low_digit m
          clear HG
          generalize UInt8.ofNat (m % 128 + 128) = c at HG2 hbm
          go_wp2_with (at_builtin; go_loud (refine wpList_append_own _ rfl _ _ 42 rfl B 5 i0 (.int .u8 0) 1 1 Tryd.underlying42 hi hz0 hz1 hz2 rfl (by decide) (.slice ak ac.length cak) _ _ rfl (HBk.out.1.1.alloc _) ⟨_, 0, none⟩ 1 1 [.int .u8 (c.toNat : Int)] rfl rfl ?c1 (one_cell c) ?c3 ?c4 ?c5 ?_))
          case c1 =>
            intro i u hu
            match i, hu with
            | 0, hu => simp at hu; subst hu; simp [Addr.add, hbm]
          case c3 => unfold maxLen; omega
          case c4 => omega
          case c5 => simp; omega
          intro v' w3 hown' hgrow _
          have HB3 : Hid (BufAt B (ac ++ [c]) v' w w3 ∧ IntsB B w3 (some ⟨b, off, none⟩) len zs) := ⟨HBk.out.1.snoc (by omega) (by rw [hbm]; exact hown') hgrow, (HBk.out.2.alloc _).grown (HBk.out.1.1.alloc _) hgrow⟩
          clear hown' hgrow
          go_wp2
          go_roundw
          case rel => exact ⟨m / 128, ac ++ [c], by omega, by go_num, HB3.out.1, HB3.out.2, HG2.out⟩
          case measure => simp [intOf]; omega
    · have HE : Hid (zs.take k = zs) := List.take_of_length_le (by rw [HL.out]; omega)
      obtain ⟨ak, cak, rfl⟩ := owned_shape hbu.1
      have HBu : Hid (BufAt B (acc ++ numsB zs) (.slice ak (acc ++ numsB (zs.take k)).length cak) w wr) := by
        have := hbu
        rw [HE.out] at this ⊢
        exact this
      clear hbu hin
      go_wp2
      go_ret
      exact ⟨_, rfl, HBu.out⟩
end Go.Proofs.YtignpgoicoojiaaDoor
