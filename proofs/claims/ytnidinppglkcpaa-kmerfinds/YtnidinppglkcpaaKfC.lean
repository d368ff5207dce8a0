/-
  finds: an index tells of a word what the document's does, twice.
-/
import Derived.Test.YtnidinppglkcpaaKfB
namespace Go.Proofs.Ytnidinppglkcpaa
open Go.RowKit Go.Maps

theorem own_len {w : World} {base : Nat} {e : TypeId} {size : Nat} {v : Value} {n : Nat} {xs : List Value} (h : w.ownsRow base e size v n xs) : xs.length = n * size := h.1
set_option maxRecDepth 10000 in
set_option maxHeartbeats 4000000 in
theorem finds_calls {w : World} {base x mb : Nat} {kn : Nat} {refs : List Wd} {f : Wd → Value} {y g : Nat} (h : IxAt w base x mb kn (occ kn 0 refs) f) (hr : RxAt w y g kn refs) (h0 : refB kn refs = 0) (wd : Wd) (hwd : wd.length ≤ maxLen) :
    Calls Try.prog 15 #[.pointer (some ⟨x, 0, none⟩), .pointer (some ⟨y, 0, none⟩), .string (bs wd)] w fun e w' => e = .returned (.bool true) ∧ Below w.heap.size w w' := by
  obtain ⟨i1, gi, gz0, gz1, gz2⟩ := info_parts info46
  have HIg : Hid (Try.prog.info? 46 = some i1 ∧ i1.zero = some (.agg #[.int .i64 0, .int .i64 0]) ∧ i1.size = 2 ∧ i1.bytes = 16) := ⟨gi, gz0, gz1, gz2⟩
  have hbd := occ_len_bd h0 0
  have hf1 := rfind_calls hr h0 wd
  have hf2 := fun W (hW : Below w.heap.size w W) => find_calls (h.below hW) wd hwd (by have : (kn : Int).toNat = kn := rfl; rw [this] at hbd; omega)
  have hTl : (if (wd.length : Int) = (kn : Int) then plsOf (occ kn 0 refs) wd else []).length ≤ 1048576 := by
    split
    · exact Nat.le_trans (pls_len _ _) hbd
    · simp
  unfold FindPost at hf1 hf2
  generalize (if (wd.length : Int) = (kn : Int) then (0 : Int) else 210) = E at *
  generalize (if (wd.length : Int) = (kn : Int) then plsOf (occ kn 0 refs) wd else []) = T at *
  obtain ⟨n, hn⟩ : ∃ n, T.length = n := ⟨_, rfl⟩
  have HN := hid hn
  rw [hn] at hTl
  clear h hr h0 hbd gi gz0 gz1 gz2 hn
  go_enter Try.func15, Try.ntmps15
  go_wp2_with (first
    | (go_at_call 23; refine hf1.mono ?_; rintro e w1 ⟨v1, rfl, ho, hb⟩; obtain ⟨wa, wc, rfl, hp⟩ := pls_row ho HN.out; have HP := hid hp; have HB := hid hb; clear ho hb hp hf1)
    | go_in)
  go_loopg [9] 2 (fun g' i wr => ∃ t : Nat, t + g' = 2 ∧ i = .int .i64 t ∧ Below w.heap.size w wr ∧ Below w1.heap.size w1 wr)
  case atStart => exact ⟨0, rfl, rfl, HB.out, Below.refl _ _⟩
  case round =>
    obtain ⟨t, ht, rfl, hb1, hb2⟩ := hrel
    have HBr := hid (And.intro hb1 hb2)
    clear hb1 hb2
    by_cases hlt : t < 2
    · have hdlt : decide ((t : Int) < 2) = true := decide_eq_true (by omega)
      have hdltn : decide (t < 2) = true := decide_eq_true hlt
      have hcall := hf2 wr HBr.out.1
      go_wp2_with (first
        | (go_at_call 18; refine hcall.mono ?_; rintro e w2 ⟨v2, rfl, ho, hb⟩; obtain ⟨va, vc, rfl, hp⟩ := pls_row ho HN.out; have HO2 := hid ho; have HP2 := hid hp; have HB2 := hid hb; have HB2a := hid (And.intro (below_two HBr.out.1 hb) (below_two HBr.out.2 hb)); clear ho hb hp hcall)
        | (go_at_call 19; refine (places_calls T T va wa n vc n wc w2 HP2.out (HP.out.below HB2a.out.2)).mono ?_; rw [decide_eq_true rfl]; rintro e w3 ⟨rfl, hb⟩; have HO3 := hid (owned_below HO2.out hb); have HB3 := hid (And.intro (below_two HB2a.out.1 hb) (below_two HB2a.out.2 hb)); have HS3 := hid (Nat.le_trans HB2.out.size hb.size); clear hb)
        | go_in)
      have HO3' : Hid (w3.ownsRow wr.heap.size 46 2 (.slice va n vc) n (plVals T)) := by have := HO3.out; rw [HN.out] at this; exact this
      obtain ⟨B, hB⟩ : ∃ B, wr.heap.size = B := ⟨_, rfl⟩
      rw [hB] at HO3' HS3
      have HBs : Hid (w.heap.size ≤ B ∧ w1.heap.size ≤ B) := by rw [← hB]; exact ⟨HBr.out.1.size, HBr.out.2.size⟩
      clear hB HO3
      obtain ⟨gO, rfl⟩ : ∃ gO, gO = gk := ⟨_, rfl⟩
      go_loopg [13] n (fun g' i wr2 => ∃ (q : Nat) (xs : List Value), q + g' = n ∧ i = .int .i64 q ∧ wr2.ownsRow B 46 2 (.slice va n vc) n xs ∧ Below w.heap.size w wr2 ∧ Below w1.heap.size w1 wr2 ∧ B ≤ wr2.heap.size)
      case atStart => exact ⟨0, _, Nat.zero_add _, rfl, HO3'.out, HB3.out.1, HB3.out.2, HS3.out⟩
      case round =>
        obtain ⟨q, xs, hq, rfl, hown, hb1, hb2, hb3⟩ := hrel
        have HOx := hid hown
        have HBx := hid (And.intro hb1 (And.intro hb2 hb3))
        clear hb1 hb2 hb3
        by_cases hlq : q < n
        · have hdq : decide ((q : Int) < (n : Int)) = true := decide_eq_true (by omega)
          obtain ⟨gb, cap, hvs, hgb, _⟩ := owned_some hown (by omega)
          have hva : va = some ⟨gb, 0, none⟩ := by injection hvs
          subst hva
          have hxl := own_len hown
          obtain ⟨u, hu⟩ := get_len (l := xs) (j := q * 2 + 1) (by omega)
          obtain ⟨hcu, hfu⟩ := owned_cells hown _ _ hu
          have HO7 : Hid ((wr.setCell ⟨gb, q * 2 + 1, none⟩ (.int .i64 (-1))).ownsRow B 46 2 (.slice (some ⟨gb, 0, none⟩) n vc) n (xs.set (q * 2 + 1) (.int .i64 (-1))) ∧ Below w.heap.size w (wr.setCell ⟨gb, q * 2 + 1, none⟩ (.int .i64 (-1))) ∧ Below w1.heap.size w1 (wr.setCell ⟨gb, q * 2 + 1, none⟩ (.int .i64 (-1))) ∧ B ≤ (wr.setCell ⟨gb, q * 2 + 1, none⟩ (.int .i64 (-1))).heap.size) :=
            ⟨owned_set hown _ _, HBx.out.1.setCell (p := ⟨gb, q * 2 + 1, none⟩) (Nat.le_trans HBs.out.1 hgb) _, HBx.out.2.1.setCell (p := ⟨gb, q * 2 + 1, none⟩) (Nat.le_trans HBs.out.2 hgb) _, by simpa [World.setCell] using HBx.out.2.2⟩
          clear hown hvs hxl hu
          go_wp2
          go_roundg (gk - 1)
          case rel => exact ⟨q + 1, _, by omega, by go_num, HO7.out.1, HO7.out.2.1, HO7.out.2.2.1, HO7.out.2.2.2⟩
          case measure => omega
        · have hdq : decide ((q : Int) < (n : Int)) = false := decide_eq_false (by omega)
          clear hown
          go_wp2_with (first
            | (refine wpList_append_opt rfl (.tmp 50) (.tmp 52) 42 rfl B 46 i1 _ 2 16 Try.underlying42 HIg.out.1 HIg.out.2.1 HIg.out.2.2.1 HIg.out.2.2.2 rfl (by decide) _ _ _ rfl (owned_below HOx.out (below_new (.cells (plCells (0, -2)).toArray 46))) (some ⟨wr.heap.size, 0, none⟩) 1 1 (plCells (0, -2)) rfl (src_new (plCells (0, -2)) 46 2 rfl (plc_one _)) (by unfold maxLen; omega) (by omega) (by have := HBx.out.2.2; simp; omega) ?_; intro v5 w5 ho hg; have HB5 : Hid (Below w.heap.size w w5 ∧ Below w1.heap.size w1 w5) := ⟨(HBx.out.1.alloc HBx.out.1.size _).grown hg (by have := HBx.out.1.size; simp; omega) (fun g hg1 => Nat.le_trans HBs.out.1 (own_lt HOx.out hg1).2), (HBx.out.2.1.alloc HBx.out.2.1.size _).grown hg (by have := HBx.out.2.1.size; simp; omega) (fun g hg1 => Nat.le_trans HBs.out.2 (own_lt HOx.out hg1).2)⟩; clear ho hg)
            | go_in)
          go_roundg (gO - 1)
          case rel => exact ⟨t + 1, by omega, by go_num, HB5.out⟩
          case measure => omega
    · have hdlt : decide ((t : Int) < 2) = false := decide_eq_false (by omega)
      have hdltn : decide (t < 2) = false := decide_eq_false hlt
      go_wp2
      try rw [Exit.noGoto_ret]
      go_ret
      exact ⟨rfl, HBr.out.1⟩
end Go.Proofs.Ytnidinppglkcpaa
