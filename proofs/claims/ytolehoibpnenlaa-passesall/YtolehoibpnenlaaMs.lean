/-
  Prune: a gap state that is never best. Prune.
-/
import Derived.Test.YtolehoibpnenlaaMo
import Derived.Test.YtolehoibpnenlaaPrE
namespace Go.Proofs.Ytolehoibpnenlaa
open Go.RowKit Go.Deep Go.Maps

def NIn (v : Int) : Prop := -144115188075855872 ≤ v ∧ v ≤ 144115188075855872
theorem best_drop {g : Int × Int} {tw : List (Int × Int)} {k : Nat} {t : Int × Int} (h : tw[k]? = some t) (up fr : Int) : bestG g (tw.drop k) up fr = bestG g (t :: tw.drop (k + 1)) up fr := by
  obtain ⟨h1, h2⟩ := List.getElem?_eq_some_iff.1 h
  rw [List.drop_eq_getElem_cons h1, h2]
set_option maxRecDepth 20000 in
set_option maxHeartbeats 4000000 in
theorem neverB_calls (g : Int × Int) (tw : List (Int × Int)) (ta : Option Addr) (m tc : Nat) (w : World) (h : PcsAt w ta m tw) (hm : m ≤ 100) (hg : NIn g.1 ∧ NIn g.2) (ht : ∀ t ∈ tw, NIn t.1 ∧ NIn t.2) :
    Calls Try.prog 59 #[.agg #[.int .i64 g.1, .int .i64 g.2], .slice ta m tc] w fun e w' => e = .returned (.bool (neverB g tw)) ∧ Below w.heap.size w w' := by
  have HP : Hid (PcsAt w ta m tw ∧ ∀ t ∈ tw, NIn t.1 ∧ NIn t.2) := ⟨h, ht⟩
  obtain ⟨V, hV⟩ : ∃ V, neverB g tw = V := ⟨_, rfl⟩
  have HV : Hid (bestG g (tw.drop 0) (-1) 9223372036854775807 = V) := by rw [List.drop_zero]; exact hV
  rw [hV]
  obtain ⟨⟨g1, g2⟩, g3, g4⟩ := hg
  have HB0 : Hid (Below w.heap.size w (w.alloc (.cells #[.int .i64 g.1, .int .i64 g.2] 81)) ∧ (w.alloc (.cells #[.int .i64 g.1, .int .i64 g.2] 81)).heap[w.heap.size]? = some (.cells #[.int .i64 g.1, .int .i64 g.2] 81 (0, 0))) := ⟨(Below.refl _ _).alloc (Nat.le_refl _) _, heap_alloc_new w _⟩
  clear h ht hV
  go_enter Try.func59, Try.ntmps59
  go_wp2
  go_loopg [5, 6, 8, 9, 10, 13] m (fun q uv fv _ _ _ kv wr => ∃ (k : Nat) (up fr : Int), k + q = m ∧ kv = .int .i64 k ∧ uv = .int .i64 up ∧ fv = .int .i64 fr ∧ Hid ((-1 ≤ up ∧ up ≤ 1152921504606846976) ∧ (0 ≤ fr ∧ fr ≤ 9223372036854775807) ∧ bestG g (tw.drop k) up fr = V ∧ Below w.heap.size w wr ∧ wr.heap[w.heap.size]? = some (.cells #[.int .i64 g.1, .int .i64 g.2] 81 (0, 0))))
  case atStart => exact ⟨0, -1, 9223372036854775807, by omega, rfl, rfl, rfl, ⟨by omega, by omega⟩, ⟨by omega, by omega⟩, HV.out, HB0.out⟩
  case round =>
    clear HV HB0
    obtain ⟨k, up, fr, hkq, rfl, rfl, rfl, HQ⟩ := hrel
    obtain ⟨⟨u1, u2⟩, ⟨f1, f2⟩, _⟩ := HQ.out
    by_cases hlt : k < m
    · obtain ⟨t, htk⟩ : ∃ t, tw[k]? = some t := ⟨tw[k]'(by rw [HP.out.1.length]; exact hlt), List.getElem?_eq_getElem _⟩
      obtain ⟨⟨t1, t2⟩, t3, t4⟩ := HP.out.2 t (List.mem_of_getElem? htk)
      obtain ⟨tg, off, rfl, hce⟩ := (HP.out.1.below HQ.out.2.2.2.1).cells (by omega)
      obtain ⟨d1, d2⟩ := hce k t htk
      have hz0 : decide ((k : Int) < (m : Int)) = true := by simp; omega
      have hzd : (k : Int) < (m : Int) := by omega
      obtain ⟨w2, hw2⟩ : ∃ w2, w2 = wr.alloc (.cells #[.int .i64 t.1, .int .i64 t.2] 81) := ⟨_, rfl⟩
      have HW2 : Hid (Below w.heap.size w w2 ∧ w2.heap[w.heap.size]? = some (.cells #[.int .i64 g.1, .int .i64 g.2] 81 (0, 0)) ∧ w2.heap[wr.heap.size]? = some (.cells #[.int .i64 t.1, .int .i64 t.2] 81 (0, 0))) := by
        have hb : Below wr.heap.size wr w2 := by rw [hw2]; exact (Below.refl _ _).alloc (Nat.le_refl _) _
        exact ⟨HQ.out.2.2.2.1.trans (hb.mono HQ.out.2.2.2.1.size), by rw [hb.block _ (lt_block HQ.out.2.2.2.2)]; exact HQ.out.2.2.2.2, by rw [hw2]; exact heap_alloc_new wr _⟩
      have HBs : Hid (bestG g (t :: tw.drop (k + 1)) up fr = V) := by rw [← best_drop htk]; exact HQ.out.2.2.1
      clear hce htk HQ
      go_upto_region 5 with (fail)
      rw [← hw2]
      obtain ⟨tb, htb⟩ : ∃ tb, wr.heap.size = tb := ⟨_, rfl⟩
      rw [htb] at HW2 ⊢
      clear hw2 htb d1 d2
      have b0 : w2.cell? ⟨tb, 0, none⟩ = some (.int .i64 t.1) := blk HW2.out.2.2 rfl
      have b1 : w2.cell? ⟨tb, 1, none⟩ = some (.int .i64 t.2) := blk HW2.out.2.2 rfl
      have c0 : w2.cell? ⟨w.heap.size, 0, none⟩ = some (.int .i64 g.1) := blk HW2.out.2.1 rfl
      have c1 : w2.cell? ⟨w.heap.size, 1, none⟩ = some (.int .i64 g.2) := blk HW2.out.2.1 rfl
      have HNx : Hid (∀ nq, Below w.heap.size w (w2.drewN nq) ∧ (w2.drewN nq).heap[w.heap.size]? = some (.cells #[.int .i64 g.1, .int .i64 g.2] 81 (0, 0))) := fun nq => ⟨below_dn HW2.out.1 nq, HW2.out.2.1⟩
      go_quiet (fail)
      obtain ⟨a, ha⟩ : ∃ a, t.1 - g.1 = a := ⟨_, rfl⟩
      obtain ⟨b, hb⟩ : ∃ b, t.2 - g.2 = b := ⟨_, rfl⟩
      have a1 : -288230376151711744 ≤ a := by omega
      have a2 : a ≤ 288230376151711744 := by omega
      have e1 : -288230376151711744 ≤ b := by omega
      have e2 : b ≤ 288230376151711744 := by omega
      rw [bestG, ha, hb] at HBs
      rw [ha, hb]
      clear ha hb b0 b1 c0 c1 t1 t2 t3 t4 HW2
      by_cases h1 : a ≤ 0
      · have hd1 : decide (a ≤ 0) = true := by simpa using h1
        by_cases h2 : b ≤ 0
        · have hd2 : decide (b ≤ 0) = true := by simpa using h2
          have HE : Hid (V = true) := by
            have := HBs.out
            rw [if_pos ⟨h1, h2⟩] at this
            exact this.symm
          clear h1 h2 HBs
          go_wp2
          go_ret
          exact ⟨by rw [HE.out]; rfl, (HNx.out _).1⟩
        · have hd2 : decide (b ≤ 0) = false := by simpa using h2
          have hb0 : 0 < b := by omega
          have hbz : ¬ b = 0 := by omega
          obtain ⟨c, hc⟩ : ∃ c, -a = c := ⟨_, rfl⟩
          have c0 : 0 ≤ c := by omega
          have c1 : c ≤ 288230376151711744 := by omega
          have hdv := div_le (a := c) (b := b) c0 hb0
          have HE : Hid (bestG g (tw.drop (k + 1)) (max up (c / b)) fr = V) := by
            have := HBs.out
            rw [if_neg (fun e => h2 e.2), if_pos h1, hc] at this
            exact this
          have HU : Hid (-1 ≤ max up (c / b) ∧ max up (c / b) ≤ 1152921504606846976) := ⟨by omega, by omega⟩
          clear h2 HBs hdv
          go_wp2
          go_roundg (gk - 1)
          case measure => omega
          case rel => exact ⟨k + 1, max up (c / b), fr, by omega, by go_num, rfl, rfl, HU.out, ⟨f1, f2⟩, HE.out, HNx.out _⟩
      · have hd1 : decide (a ≤ 0) = false := by simpa using h1
        have ha0 : 0 < a := by omega
        by_cases h2 : b < 0
        · have hd2 : decide (b < 0) = true := by simpa using h2
          obtain ⟨c, hc⟩ : ∃ c, -b = c := ⟨_, rfl⟩
          have c0 : 0 < c := by omega
          have cz : ¬ c = 0 := by omega
          have c1 : c ≤ 288230376151711744 := by omega
          have hdv := div_le (a := a - 1) (b := c) (by omega) c0
          have HE : Hid (bestG g (tw.drop (k + 1)) up (min fr ((a - 1) / c + 1)) = V) := by
            have := HBs.out
            rw [if_neg (fun e => h1 e.1), if_neg h1, if_pos h2, hc] at this
            exact this
          have HU : Hid (0 ≤ min fr ((a - 1) / c + 1) ∧ min fr ((a - 1) / c + 1) ≤ 9223372036854775807) := ⟨by omega, by omega⟩
          obtain ⟨v1, v2⟩ := hdv
          clear h1 h2 HBs
          go_wp2
          go_roundg (gk - 1)
          case measure => omega
          case rel => exact ⟨k + 1, up, min fr ((a - 1) / c + 1), by omega, by go_num, rfl, rfl, ⟨u1, u2⟩, HU.out, HE.out, HNx.out _⟩
        · have hd2 : decide (b < 0) = false := by simpa using h2
          have HE : Hid (bestG g (tw.drop (k + 1)) up fr = V) := by
            have := HBs.out
            rw [if_neg (fun e => h1 e.1), if_neg h1, if_neg h2] at this
            exact this
          clear h1 h2 HBs
          go_wp2
          go_roundg (gk - 1)
          case measure => omega
          case rel => exact ⟨k + 1, up, fr, by omega, by go_num, rfl, rfl, ⟨u1, u2⟩, ⟨f1, f2⟩, HE.out, HNx.out _⟩
    · have hz0 : decide ((k : Int) < (m : Int)) = false := by simp; omega
      have HE : Hid (V = decide (fr ≤ up + 1) ∧ Below w.heap.size w wr) := by
        have h1 := HQ.out.2.2.1
        rw [List.drop_eq_nil_of_le (by rw [HP.out.1.length]; omega)] at h1
        exact ⟨h1.symm, HQ.out.2.2.2.1⟩
      clear HQ
      go_wp2
      go_ret
      exact ⟨ret_bool HE.out.1.symm, HE.out.2⟩
end Go.Proofs.Ytolehoibpnenlaa
namespace Go.Proofs.Ytolehoibpnenlaa
open Go.RowKit Go.Deep Go.Maps

/-- The work. -/
structure PrW (w : World) (base wb : Nat) (x : Rc) (vs : List Int) (l : List St) (wr : World) : Prop where
  wk : ∃ y, WkAt wr base wb { x with states := l } vs y
  low : Below base w wr
  ok : SOk vs.length l
theorem PrW.next {w : World} {base wb : Nat} {x : Rc} {vs : List Int} {l : List St} {wr w2 : World} (h : PrW w base wb x vs l wr) (hb : Below wr.heap.size wr w2) (hbs : base ≤ wr.heap.size) : PrW w base wb x vs l w2 := by
  obtain ⟨y, hy⟩ := h.wk
  exact ⟨⟨y, hy.below hb⟩, h.low.trans (hb.mono hbs), h.ok⟩
theorem gone_none {vs : List Int} {l : List St} {s : Nat} (h : gapB vs l s = none) : goneB vs l s = false := by rw [goneB, h]
theorem gone_some {vs : List Int} {l : List St} {s : Nat} {g : Int × Int} (h : gapB vs l s = some g) : goneB vs l s = neverB g (twinsB vs l s) := by rw [goneB, h]
set_option maxRecDepth 20000 in
set_option maxHeartbeats 4000000 in
theorem prune_calls (w : World) (base wb : Nat) (x : Rc) (vs : List Int) (y : Ly) (h : WkAt w base wb x vs y) (hok : SOk vs.length x.states) (hv : ∀ v ∈ vs, -144115188075855872 ≤ v ∧ v ≤ 144115188075855872) :
    Calls Try.prog 35 #[.pointer (some ⟨wb, 0, none⟩)] w fun e w' => e = .returned (.tuple #[]) ∧ (∃ y', WkAt w' base wb (pruneB x vs) vs y') ∧ Below base w w' := by
  obtain ⟨n, hn⟩ : ∃ n, x.states.length = n := ⟨_, rfl⟩
  have hn9 : n ≤ 9 := by rw [← hn]; exact hok.1
  have HW : Hid (x.states.length = n ∧ base ≤ w.heap.size ∧ ∀ v ∈ vs, -144115188075855872 ≤ v ∧ v ≤ 144115188075855872) := ⟨hn, Nat.le_trans h.fro (Nat.le_of_lt (lt_block h.box)), hv⟩
  have c10 : w.cell? ⟨wb, 10, none⟩ = some (.slice y.ta n y.tc) := by rw [← hn]; exact h.cell 10 _ rfl
  have HQ0 : Hid (∃ l, pruneG vs n l = pruneG vs n x.states ∧ n ≤ l.length ∧ PrW w base wb x vs l w) := ⟨x.states, rfl, by rw [hn]; exact Nat.le_refl _, ⟨y, h⟩, Below.refl _ _, hok⟩
  clear h hok hn hv
  go_enter Try.func35, Try.ntmps35
  go_wp2
  clear c10
  go_loopg [2, 3, 4] n (fun q sv _ _ wr => q ≤ n ∧ sv = .int .i64 ((q : Int) - 1) ∧ Hid (∃ l, pruneG vs q l = pruneG vs n x.states ∧ q ≤ l.length ∧ PrW w base wb x vs l wr))
  case atStart => exact ⟨Nat.le_refl _, rfl, HQ0.out⟩
  case round =>
    clear HQ0
    obtain ⟨hqn, rfl, HQ⟩ := hrel
    by_cases hq : 0 < gk
    · obtain ⟨j, hj⟩ : ∃ j, gk = j + 1 := ⟨gk - 1, by omega⟩
      subst hj
      have ej : ((j + 1 : Nat) : Int) - 1 = (j : Int) := by omega
      rw [ej]
      clear ej
      obtain ⟨l, hdl, hjl, hdw⟩ := HQ.out
      obtain ⟨y2, hy2⟩ := hdw.wk
      have hj0 : decide ((0 : Int) ≤ (j : Int)) = true := by simp
      have hbs : base ≤ wr.heap.size := Nat.le_trans HW.out.2.1 hdw.low.size
      obtain ⟨G, hG⟩ : ∃ G, gapB vs l j = G := ⟨_, rfl⟩
      obtain ⟨ok, hok⟩ : ∃ ok, G.isSome = ok := ⟨_, rfl⟩
      have HC : Hid (Calls Try.prog 58 #[.pointer (some ⟨wb, 0, none⟩), .int .i64 (j : Int)] wr fun e w' => e = .returned (.tuple #[.agg #[.int .i64 (gpV G).1, .int .i64 (gpV G).2], .bool ok]) ∧ Below wr.heap.size wr w') := by
        rw [← hok, ← hG]
        exact gap_calls wr base wb { x with states := l } vs y2 hy2 hdw.ok j (by show j < l.length; omega)
      have HTw : Hid (∀ W, Below wr.heap.size wr W → Calls Try.prog 60 #[.pointer (some ⟨wb, 0, none⟩), .int .i64 (j : Int)] W fun e w' => RowPost 81 2 (twinsB vs l j).length (pcRow (twinsB vs l j)) W e w') := fun W hW => twinsOf_calls W base wb { x with states := l } vs y2 (hy2.below hW) hdw.ok j (by show j < l.length; omega)
      have HTk : Hid (∀ W, Below wr.heap.size wr W → Calls Try.prog 61 #[.pointer (some ⟨wb, 0, none⟩), .int .i64 (j : Int)] W fun e w' => e = .returned (.tuple #[]) ∧ (∃ y', WkAt w' base wb { x with states := takeB j l } vs y') ∧ Below base W w' ∧ Kp W w') := fun W hW =>
        take_calls W base wb j { x with states := l } vs y2 (hy2.below hW) (Nat.le_trans hbs hW.size) hdw.ok.1 (by show j < l.length; omega) (sok_edges hdw.ok)
      have HD : Hid (pruneG vs j (if goneB vs l j then takeB j l else l) = pruneG vs n x.states ∧ j + 1 ≤ l.length ∧ PrW w base wb x vs l wr ∧ base ≤ wr.heap.size ∧ gapB vs l j = G ∧ G.isSome = ok) := ⟨hdl, hjl, hdw, hbs, hG, hok⟩
      clear hdl hjl hdw hy2 HQ hbs hG hok
      go_wp2_with fail
      refine HC.out.mono ?_
      rintro e w1 ⟨rfl, hb1⟩
      go_upto_region 4 with (fail)
      obtain ⟨gb, hgb⟩ : ∃ gb, w1.heap.size = gb := ⟨_, rfl⟩
      obtain ⟨w2, hw2⟩ : ∃ w2, w2 = w1.alloc (.cells #[.int .i64 (gpV G).1, .int .i64 (gpV G).2] 81) := ⟨_, rfl⟩
      rw [← hw2, hgb]
      have HB2 : Hid (Below wr.heap.size wr w2 ∧ w2.heap[gb]? = some (.cells #[.int .i64 (gpV G).1, .int .i64 (gpV G).2] 81 (0, 0))) := by
        have h0 : Below w1.heap.size w1 w2 := by rw [hw2]; exact (Below.refl _ _).alloc (Nat.le_refl _) _
        exact ⟨hb1.trans (h0.mono hb1.size), by rw [hw2, ← hgb]; exact heap_alloc_new w1 _⟩
      clear hb1 hgb hw2 HC
      have HNo : Hid (goneB vs l j = false → ∀ W, Below wr.heap.size wr W → ∃ l, pruneG vs j l = pruneG vs n x.states ∧ j ≤ l.length ∧ PrW w base wb x vs l W) := fun hg W hW => by
        obtain ⟨h1, h2, h3, h4, _⟩ := HD.out
        rw [hg, if_neg (by decide)] at h1
        exact ⟨l, h1, by omega, h3.next hW h4⟩
      cases G with
      | none =>
        obtain rfl : false = ok := HD.out.2.2.2.2.2
        have HG0 : Hid (goneB vs l j = false) := gone_none HD.out.2.2.2.2.1
        go_quiet (fail)
        have HN : Hid (∃ l, pruneG vs j l = pruneG vs n x.states ∧ j ≤ l.length ∧ PrW w base wb x vs l (w2.drewN nq)) := HNo.out HG0.out _ (HB2.out.1.trans (below_dn (Below.refl wr.heap.size w2) nq))
        clear HNo HG0 HD HTk HTw HB2
        go_wp2
        go_roundg j
        case measure => omega
        case rel => exact ⟨by omega, rfl, HN.out⟩
      | some g =>
        obtain rfl : true = ok := HD.out.2.2.2.2.2
        have HGV : Hid (goneB vs l j = neverB g (twinsB vs l j)) := gone_some HD.out.2.2.2.2.1
        have hb0 : Below w2.heap.size w2 w2.drew := (Below.refl _ _).drew
        have HS1 : Hid (∀ W, Below w2.heap.size w2 W → W.cell? ⟨gb, 0, none⟩ = some (.int .i64 g.1) ∧ W.cell? ⟨gb, 1, none⟩ = some (.int .i64 g.2)) := fun W hW => by
          have hbb : W.heap[gb]? = _ := (hW.block _ (lt_block HB2.out.2)).trans HB2.out.2
          exact ⟨blk hbb rfl, blk hbb rfl⟩
        have hs0 := HS1.out w2.drew hb0
        obtain ⟨tw, htw⟩ : ∃ tw, twinsB vs l j = tw := ⟨_, rfl⟩
        obtain ⟨m, hm⟩ : ∃ m, tw.length = m := ⟨_, rfl⟩
        have HTw2 : Hid (Calls Try.prog 60 #[.pointer (some ⟨wb, 0, none⟩), .int .i64 (j : Int)] w2.drew fun e w' => RowPost 81 2 m (pcRow tw) w2.drew e w') := by
          rw [← hm, ← htw]
          exact HTw.out w2.drew (HB2.out.1.trans (hb0.mono HB2.out.1.size))
        have HNv : Hid (∀ W ta tc, PcsAt W ta m tw → Calls Try.prog 59 #[.agg #[.int .i64 g.1, .int .i64 g.2], .slice ta m tc] W fun e w' => e = .returned (.bool (neverB g tw)) ∧ Below W.heap.size W w') := fun W ta tc hp => by
          have hm9 : m ≤ 9 := by
            rw [← hm, ← htw]
            have h1 := twL_len vs l j l.length
            have h2 : twinsB vs l j = twL vs l j l.length := rfl
            rw [h2]
            have := HD.out.2.2.1.ok.1
            omega
          refine neverB_calls g tw ta m tc W hp (by omega) (gap_in HW.out.2.2 HD.out.2.2.2.2.1) fun t ht => ?_
          rw [← htw] at ht
          obtain ⟨k, _, hk⟩ := twins_in ht
          exact gap_in HW.out.2.2 hk
        have HML : Hid (m = tw.length ∧ m ≤ 9) := by
          refine ⟨hm.symm, ?_⟩
          rw [← hm, ← htw]
          have h1 := twL_len vs l j l.length
          have h2 : twinsB vs l j = twL vs l j l.length := rfl
          rw [h2]
          have := HD.out.2.2.1.ok.1
          omega
        rw [htw] at HGV
        obtain ⟨V, hV⟩ : ∃ V, neverB g tw = V := ⟨_, rfl⟩
        rw [hV] at HNv HGV
        clear htw hm hV HTw
        refine wp_region_Y (fun j => [].contains j) (fun W : World => W.cell? ⟨gb, 0, none⟩ = some (.int .i64 g.1) ∧ W.cell? ⟨gb, 1, none⟩ = some (.int .i64 g.2)) (by kernel_rfl) ?_
        refine wpAnyY_pure (i := 0) 22 (v := .bool true) rfl rfl (by kernel_rfl) (by kernel_rfl) (by kernel_rfl) (fun _ _ _ h => h) (Or.inl ⟨by rfl, by (intro W _; go_simp)⟩) ?_
        simp only [Act.put, List.setIfInBounds_toArray, List.set_cons_succ, List.set_cons_zero]
        refine wpAnyY_pure (i := 1) 23 (v := .bool true) rfl rfl (by kernel_rfl) (by kernel_rfl) (by kernel_rfl) (fun _ _ _ h => h) (Or.inl ⟨by rfl, by (intro W _; go_simp)⟩) ?_
        simp only [Act.put, List.setIfInBounds_toArray, List.set_cons_succ, List.set_cons_zero]
        refine wpAnyY_takeD (i := 2) 24 (v := .agg #[.int .i64 g.1, .int .i64 g.2]) rfl rfl (by kernel_rfl) (by kernel_rfl) (late_of (by kernel_rfl)) (by kernel_rfl) (by kernel_rfl) (fun _ _ _ h => h) hs0 (Or.inl ⟨by rfl, by (intro W hW; obtain ⟨s0, s1⟩ := hW; go_simp)⟩) ?_
        simp only [Act.put, List.setIfInBounds_toArray, List.set_cons_succ, List.set_cons_zero]
        refine wpAnyY_pure (i := 3) 25 (v := .pointer (some ⟨wb, 0, none⟩)) rfl rfl (by kernel_rfl) (by kernel_rfl) (by kernel_rfl) (fun _ _ _ h => h) (Or.inl ⟨by rfl, by (intro W _; go_simp)⟩) ?_
        simp only [Act.put, List.setIfInBounds_toArray, List.set_cons_succ, List.set_cons_zero]
        refine wpAnyY_pure (i := 4) 26 (v := .int .i64 (j : Int)) rfl rfl (by kernel_rfl) (by kernel_rfl) (by kernel_rfl) (fun _ _ _ h => h) (Or.inl ⟨by rfl, by (intro W _; go_simp)⟩) ?_
        simp only [Act.put, List.setIfInBounds_toArray, List.set_cons_succ, List.set_cons_zero]
        refine wpAnyY_one (i := 5) rfl (by kernel_rfl) (fun Kc hKc => ?_)
        refine step_fnD 27 rfl (by rfl) 60 _ _ rfl Try.f60 Try.func60 (by kernel_rfl) (by kernel_rfl) #[.pointer (some ⟨wb, 0, none⟩), .int .i64 (j : Int)] (by simp [Act.eval]) (HTw2.out) ?_
        rintro e w3 ⟨ta, tc, rfl, ho3, hb3⟩
        have HX3 : Hid (Below w2.heap.size w2 w3 ∧ PcsAt w3 ta m tw) := by
          refine ⟨hb0.trans hb3, ?_⟩
          have ho4 := ho3
          rw [HML.out.1] at ho4
          obtain ⟨a, c, e, hp⟩ := pcs_own ho4 (by unfold maxLen; have := HML.out; omega)
          injection e with e1
          rw [e1, HML.out.1]; exact hp
        clear ho3 hb3
        refine ⟨_, rfl, hKc.out _ _ (fun _ _ => HS1.out _ HX3.out.1) ?_⟩
        clear hKc Kc
        simp only [Act.put, List.setIfInBounds_toArray, List.set_cons_succ, List.set_cons_zero]
        refine wpAnyY_one (i := 6) rfl (by kernel_rfl) (fun Kc hKc => ?_)
        refine step_fnD 28 rfl (by rfl) 59 _ _ rfl Try.f59 Try.func59 (by kernel_rfl) (by kernel_rfl) #[.agg #[.int .i64 g.1, .int .i64 g.2], .slice ta m tc] (by simp [Act.eval]) (HNv.out w3 ta tc HX3.out.2) ?_
        rintro e w4 ⟨rfl, hb4⟩
        have HX4 : Hid (Below w2.heap.size w2 w4) := HX3.out.1.trans (hb4.mono HX3.out.1.size)
        clear hb4
        refine ⟨_, rfl, hKc.out _ _ (fun _ _ => HS1.out _ HX4.out) ?_⟩
        clear hKc Kc
        simp only [Act.put, List.setIfInBounds_toArray, List.set_cons_succ, List.set_cons_zero]
        refine wpAnyY_pure (i := 7) 29 (v := .bool V) rfl rfl (by kernel_rfl) (by kernel_rfl) (by kernel_rfl) (fun _ _ _ h => h) (Or.inl ⟨by rfl, by (intro W _; go_simp)⟩) ?_
        simp only [Act.put, List.setIfInBounds_toArray, List.set_cons_succ, List.set_cons_zero]
        refine wpAnyY_done (by kernel_rfl) ?_ _
        clear hs0 HS1 HTw2 HNv HX3
        have HX : Hid (Below wr.heap.size wr w4) := HB2.out.1.trans (HX4.out.mono HB2.out.1.size)
        clear HX4 HB2
        cases V with
        | false =>
          have HN : Hid (∃ l, pruneG vs j l = pruneG vs n x.states ∧ j ≤ l.length ∧ PrW w base wb x vs l w4) := HNo.out HGV.out _ HX.out
          clear HNo HGV HD HTk
          go_wp2
          go_roundg j
          case measure => omega
          case rel => exact ⟨by omega, rfl, HN.out⟩
        | true =>
          go_wp2_with fail
          refine (HTk.out w4 HX.out).mono ?_
          rintro e w5 ⟨rfl, hy5, hb5, _⟩
          have HN : Hid (∃ l, pruneG vs j l = pruneG vs n x.states ∧ j ≤ l.length ∧ PrW w base wb x vs l w5) := by
            obtain ⟨h1, h2, h3, h4, _⟩ := HD.out
            rw [HGV.out, if_pos rfl] at h1
            exact ⟨takeB j l, h1, by rw [takeB_len j l (by omega)]; omega, hy5, (h3.next HX.out h4).low.trans hb5, takeB_ok h3.ok (by omega)⟩
          clear hy5 hb5 HTk HD HX HNo HGV
          go_wp2
          go_roundg j
          case measure => omega
          case rel => exact ⟨by omega, rfl, HN.out⟩
    · obtain rfl : gk = 0 := by omega
      have HE : Hid ((∃ y', WkAt wr base wb (pruneB x vs) vs y') ∧ Below base w wr) := by
        obtain ⟨l, h1, _, h2⟩ := HQ.out
        refine ⟨?_, h2.low⟩
        rw [pruneB, HW.out.1, ← h1]
        exact h2.wk
      clear HQ
      go_wp2
      go_end0
      exact ⟨rfl, HE.out⟩
theorem vals_sok {x : Rc} {vs : List Int} (hr : rightR x = true) (hv : (valsB x.defs).1 = vs) : SOk vs.length x.states := by
  rw [← hv, (right_defs hr).2]
  exact right_sok hr
theorem pruneP_ok : PassOk pruneP := by
  refine ⟨enters_of Try.func35 (by kernel_rfl) rfl, fun w base wb x vs y h hr hv => prune_calls w base wb x vs y h (vals_sok hr hv) (fun v hm => ?_), fun x vs hr hv => ⟨prune_right hr, hv⟩⟩
  have h1 := valsB_in x.defs v (by rw [hv]; exact hm)
  unfold maxV at h1
  exact h1
end Go.Proofs.Ytolehoibpnenlaa
