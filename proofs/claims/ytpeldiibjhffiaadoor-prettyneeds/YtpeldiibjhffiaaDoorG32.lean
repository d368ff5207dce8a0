/-
  Expressions are laid down: pairs, lists. Expressions are laid down, by kinds. Items are laid down.
-/
import Derived.Test.YtpeldiibjhffiaaDoorG30
import Derived.Test.YtpeldiibjhffiaaDoorRgtP
import Derived.Test.YtpeldiibjhffiaaDoorG11
import Derived.Test.YtpeldiibjhffiaaDoorDrawn
namespace Go.Proofs.YtpeldiibjhffiaaDoor
open Go.RowKit Go.Deep

theorem firm_small (k : Int) : 0 ≤ firmB k ∧ firmB k ≤ 2 := by
  unfold firmB
  split
  · omega
  · split <;> omega
theorem sgn_small (k : Int) : (bs (sgnB k)).size ≤ 100 := by
  unfold sgnB
  split
  · decide
  · split <;> decide
theorem bs_data (l : List UInt8) : (bs l).data.toList = l := bs_list l
theorem five {w0 W : World} {g p : Nat} {h : Hd} {ka : Option Addr} {kn kc : Nat} (hc : CellsAt w0 g p (exCells h ka kn kc)) (hb : Below w0.heap.size w0 W) : W.cell? ⟨g, p, none⟩ = some (.int .i64 h.kind) ∧ W.cell? ⟨g, p + 1, none⟩ = some (.int .i64 h.num) ∧ W.cell? ⟨g, p + 2, none⟩ = some (.string (bs h.text)) ∧ W.cell? ⟨g, p + 3, none⟩ = some (.slice ka kn kc) ∧ W.cell? ⟨g, p + 4, none⟩ = some (.int .i64 h.pl) :=
  ⟨keepc hb (hc 0 _ rfl), keepc hb (hc 1 _ rfl), keepc hb (hc 2 _ rfl), keepc hb (hc 3 _ rfl), keepc hb (hc 4 _ rfl)⟩
set_option maxRecDepth 20000 in
set_option maxHeartbeats 4000000 in
theorem layBoth_calls {w0 : World} {b : Nat} (h : Hd) (g off kn kc : Nat) (e1 e2 : Ex) (k1 k2 : Option Addr) (n1 c1 n2 c2 : Nat) (hkn : 2 ≤ kn) (cs1 : CellsAt w0 g off (exCells e1.1 k1 n1 c1)) (cs2 : CellsAt w0 g (off + 5) (exCells e2.1 k2 n2 c2))
    (H1 : LEx w0 b e1 k1 n1 c1) (H2 : LEx w0 b e2 k2 n2 c2) (T : List UInt8) (w : World) (hS : Sh w0 b T w) (hT : T.length ≤ 4000) :
    Calls Tryd.prog 47 #[.agg #[.int .i64 h.kind, .int .i64 h.num, .string (bs h.text), .slice (some ⟨g, off, none⟩) kn kc, .int .i64 h.pl], layV b] w (LPost w0 b T (brB (firmB h.kind) (e1.1.kind, txE e1) ++ ([32] ++ (sgnB h.kind ++ [32]) ++ brB (firmB h.kind + 1) (e2.1.kind, txE e2))) w) := by
  have hk0 : ¬ kn = 0 := by omega
  have hk1 : 1 < kn := by omega
  have HK1 : Hid (∀ (T : List UInt8) (w : World), Sh w0 b T w → T.length ≤ 4000 → Calls Tryd.prog 46 #[.agg #[.int .i64 e1.1.kind, .int .i64 e1.1.num, .string (bs e1.1.text), .slice k1 n1 c1, .int .i64 e1.1.pl], .int .i64 (firmB h.kind), layV b] w (LPost w0 b T (brB (firmB h.kind) (e1.1.kind, txE e1)) w)) := fun T w h1 h2 => layKid_calls H1 _ T w h1 h2
  have HK2 : Hid (∀ (T : List UInt8) (w : World), Sh w0 b T w → T.length ≤ 4000 → Calls Tryd.prog 46 #[.agg #[.int .i64 e2.1.kind, .int .i64 e2.1.num, .string (bs e2.1.text), .slice k2 n2 c2, .int .i64 e2.1.pl], .int .i64 (firmB h.kind + 1), layV b] w (LPost w0 b T (brB (firmB h.kind + 1) (e2.1.kind, txE e2)) w)) := fun T w h1 h2 => layKid_calls H2 _ T w h1 h2
  have HFm : Hid (∀ w, Calls Tryd.prog 69 #[.int .i64 h.kind] w fun e' w' => e' = .returned (.int .i64 (firmB h.kind)) ∧ w = w') := fun w => firm_calls _ w
  have HBt : Hid (∀ w, Calls Tryd.prog 70 #[.int .i64 h.kind] w fun e' w' => e' = .returned (.string (bs (sgnB h.kind))) ∧ w = w') := fun w => betw_calls _ w
  have HLy : Hid (∀ (T : List UInt8) (W : World), Sh w0 b T W → T.length ≤ 4000 → Calls Tryd.prog 18 #[.pointer (some ⟨b, 0, none⟩), .slice (some ⟨W.heap.size, 0, none⟩) 3 3] (W.alloc (.cells #[.string ⟨#[32]⟩, .string (bs (sgnB h.kind)), .string ⟨#[32]⟩] 9)) (LPost w0 b T ([32] ++ (sgnB h.kind ++ [32])) W)) := fun T W h1 h2 => by
    have := lay_three h1 h2 ⟨#[32]⟩ (bs (sgnB h.kind)) ⟨#[32]⟩ (by decide) (sgn_small _) (by decide)
    rw [bs_data] at this
    exact this
  have hfs := firm_small h.kind
  have HN : Hid (Sh w0 b T (w.alloc (.cells #[.int .i64 h.kind, .int .i64 h.num, .string (bs h.text), .slice (some ⟨g, off, none⟩) kn kc, .int .i64 h.pl] 40)) ∧ Keep w (w.alloc (.cells #[.int .i64 h.kind, .int .i64 h.num, .string (bs h.text), .slice (some ⟨g, off, none⟩) kn kc, .int .i64 h.pl] 40)) ∧ (w.alloc (.cells #[.int .i64 h.kind, .int .i64 h.num, .string (bs h.text), .slice (some ⟨g, off, none⟩) kn kc, .int .i64 h.pl] 40)).heap[w.heap.size]? = some (.cells #[.int .i64 h.kind, .int .i64 h.num, .string (bs h.text), .slice (some ⟨g, off, none⟩) kn kc, .int .i64 h.pl] 40 (0, 0)) ∧ T.length ≤ 4000) := ⟨hS.next (low_alloc _ _), keep_alloc _ _, heap_alloc_new w _, hT⟩
  have HC : Hid (∀ W, Below w0.heap.size w0 W → (W.cell? ⟨g, off, none⟩ = some (.int .i64 e1.1.kind) ∧ W.cell? ⟨g, off + 1, none⟩ = some (.int .i64 e1.1.num) ∧ W.cell? ⟨g, off + 2, none⟩ = some (.string (bs e1.1.text)) ∧ W.cell? ⟨g, off + 3, none⟩ = some (.slice k1 n1 c1) ∧ W.cell? ⟨g, off + 4, none⟩ = some (.int .i64 e1.1.pl)) ∧ (W.cell? ⟨g, off + 5, none⟩ = some (.int .i64 e2.1.kind) ∧ W.cell? ⟨g, off + 5 + 1, none⟩ = some (.int .i64 e2.1.num) ∧ W.cell? ⟨g, off + 5 + 2, none⟩ = some (.string (bs e2.1.text)) ∧ W.cell? ⟨g, off + 5 + 3, none⟩ = some (.slice k2 n2 c2) ∧ W.cell? ⟨g, off + 5 + 4, none⟩ = some (.int .i64 e2.1.pl))) := fun W hW => ⟨five cs1 hW, five cs2 hW⟩
  clear hS hT cs1 cs2 H1 H2
  generalize brB (firmB h.kind) (e1.1.kind, txE e1) = X1 at *
  generalize brB (firmB h.kind + 1) (e2.1.kind, txE e2) = X3 at *
  generalize [32] ++ (sgnB h.kind ++ [32]) = X2 at *
  generalize bs (sgnB h.kind) = sg at *
  generalize firmB h.kind = fk at *
  obtain ⟨⟨y0, y1, y2, y3, y4⟩, -⟩ := HC.out _ HN.out.1.low
  go_enter Tryd.func47, Tryd.ntmps47
  go_wp2_with fail
  refine (HFm.out _).mono ?_
  rintro e' w1 ⟨rfl, rfl⟩
  clear HFm
  go_wp2_with fail
  refine (HK1.out T _ HN.out.1 HN.out.2.2.2).mono ?_
  rintro e' w2 ⟨z, rfl, hb2, hk2, ht2, hf2⟩
  clear y0 y1 y2 y3 y4
  cases z with
  | false =>
    have HP : Hid (LPost w0 b T (X1 ++ (X2 ++ X3)) w (.returned (.bool false)) w2) := LPost.stop _ hb2 (HN.out.2.1.trans hk2) (hf2 rfl)
    clear hb2 hk2 ht2 hf2
    go_wp2
    go_ret
    exact HP.out
  | true =>
    obtain ⟨hS2, hT2⟩ := ht2 rfl
    have hbx := hk2.cells HN.out.2.2.1 (by decide) (by decide)
    have x0 := blk (i := 0) hbx rfl
    have x3 := blk (i := 3) hbx rfl
    have HS2 : Hid (Sh w0 b (T ++ X1) w2 ∧ (T ++ X1).length ≤ 4000 ∧ Keep w w2 ∧ w2.heap[w.heap.size]? = some (.cells #[.int .i64 h.kind, .int .i64 h.num, .string (bs h.text), .slice (some ⟨g, off, none⟩) kn kc, .int .i64 h.pl] 40 (0, 0))) := ⟨hS2, hT2, HN.out.2.1.trans hk2, hbx⟩
    clear hb2 hk2 ht2 hf2 hS2 hT2 hbx
    go_wp2_with fail
    refine (HBt.out _).mono ?_
    rintro e' w3 ⟨rfl, rfl⟩
    clear HBt
    go_wp2_with fail
    refine (HLy.out (T ++ X1) _ HS2.out.1 HS2.out.2.1).mono ?_
    rintro e' w4 ⟨z, rfl, hb4, hk4, ht4, hf4⟩
    clear x0 x3
    cases z with
    | false =>
      have HP : Hid (LPost w0 b T (X1 ++ (X2 ++ X3)) w (.returned (.bool false)) w4) := LPost.after (LPost.stop _ hb4 hk4 (hf4 rfl)) HS2.out.2.2.1
      clear hb4 hk4 ht4 hf4
      go_wp2
      go_ret
      exact HP.out
    | true =>
      obtain ⟨hS4, hT4⟩ := ht4 rfl
      have hbx := hk4.cells HS2.out.2.2.2 (by decide) (by decide)
      have x3 := blk (i := 3) hbx rfl
      obtain ⟨-, y0, y1, y2, y3, y4⟩ := HC.out _ hb4
      have HS4 : Hid (Sh w0 b (T ++ X1 ++ X2) w4 ∧ (T ++ X1 ++ X2).length ≤ 4000 ∧ Keep w2 w4) := ⟨hS4, hT4, hk4⟩
      clear hb4 hk4 ht4 hf4 hS4 hT4 hbx HLy
      go_wp2_with fail
      refine (HK2.out _ _ HS4.out.1 HS4.out.2.1).mono ?_
      rintro e' w5 ⟨z, rfl, hp⟩
      have HP : Hid (LPost w0 b T (X1 ++ (X2 ++ X3)) w (.returned (.bool z)) w5) := LPost.after (LPost.after ⟨z, rfl, hp⟩ HS4.out.2.2) HS2.out.2.2.1
      clear hp x3 y0 y1 y2 y3 y4
      go_wp2
      go_ret
      exact HP.out
set_option maxRecDepth 20000 in
set_option maxHeartbeats 4000000 in
theorem layAll_calls {w0 : World} {b : Nat} {o : Bool} {S : Nat → Prop} (N : Nat) (HX : ∀ (e : Ex) (ka : Option Addr) (kn kc : Nat), ExAt o S w0 e ka kn → szF e.2 < N → ExR e → LEx w0 b e ka kn kc) (sep : ByteArray) (hsep : sep.size ≤ 100) (F : Fo) (ao : Option Addr) (n c : Nat) (hF : FoAt o S w0 F ao n) (hn : n ≤ maxLen) (hN : szF F ≤ N) (hR : hdsR F = true)
    (T : List UInt8) (w : World) (hS : Sh w0 b T w) (hT : T.length ≤ 4000) :
    Calls Tryd.prog 30 #[.slice ao n c, .string sep, layV b] w (LPost w0 b T (allB sep.data.toList true (txF F)) w) := by
  obtain ⟨g, off, hka, hF'⟩ := foAt_addr hF
  unfold maxLen at hn
  have HL : Hid (∀ (e : Ex) (ka : Option Addr) (kn kc : Nat), ExAt o S w0 e ka kn → szF e.2 < N → ExR e → LEx w0 b e ka kn kc) := HX
  have HLy : Hid (∀ (T : List UInt8) (W : World), Sh w0 b T W → T.length ≤ 4000 → Calls Tryd.prog 18 #[.pointer (some ⟨b, 0, none⟩), .slice (some ⟨W.heap.size, 0, none⟩) 1 1] (W.alloc (.cells #[.string sep] 9)) (LPost w0 b T sep.data.toList W)) := fun T W h1 h2 => lay_one h1 h2 sep hsep
  have H0 : Hid (FoAt o S w0 F (some ⟨g, off + 0 * 5, none⟩) (n - 0) ∧ szF F ≤ N ∧ hdsR F = true ∧ T ++ allB sep.data.toList (decide ((0 : Nat) = 0)) (txF F) = T ++ allB sep.data.toList true (txF F)) := ⟨hF', hN, hR, rfl⟩
  have H1 : Hid (Sh w0 b T w ∧ T.length ≤ 4000 ∧ Keep w w) := ⟨hS, hT, Keep.refl _⟩
  generalize allB sep.data.toList true (txF F) = X at *
  clear hF hF' hN hR hS hT hsep HX
  go_enter Tryd.func30, Tryd.ntmps30
  go_wp2_with fail
  go_loopg [11] n (fun k iv wr => ∃ (G : Fo) (i : Nat) (T' : List UInt8), iv = .int .i64 (i : Int) ∧ i + k = n ∧ Hid (FoAt o S w0 G (some ⟨g, off + i * 5, none⟩) (n - i) ∧ szF G ≤ N ∧ hdsR G = true ∧ T' ++ allB sep.data.toList (decide (i = 0)) (txF G) = T ++ X) ∧ Hid (Sh w0 b T' wr ∧ T'.length ≤ 4000 ∧ Keep w wr))
  case atStart => exact ⟨F, 0, T, rfl, by omega, H0.out, H1.out⟩
  case round =>
    clear H0 H1
    obtain ⟨G, i, T', rfl, hik, HG, HT⟩ := hrel
    by_cases hi : i < n
    · have hdi : decide ((i : Int) < (n : Int)) = true := by simp; omega
      obtain ⟨b0, o0, h2, k2, r2, ka2, kc2, kk2, rfl, -, hok, hkc, ⟨c0, c1, c2, c3, c4⟩, hk2, hr2⟩ := foAt_head HG.out.1 hi
      have hka2 := hka (by omega)
      subst hka2
      have hR2 := HG.out.2.2.1
      have hN2 := HG.out.2.1
      simp only [hdsR, Bool.and_eq_true] at hR2
      simp only [szF] at hN2
      have HLE : Hid (LEx w0 b (h2, k2) ka2 kc2 kk2) := HL.out (h2, k2) ka2 kc2 kk2 ⟨hok, hkc, hk2⟩ (by show szF k2 < N; omega) ⟨hR2.1, hR2.2.1⟩
      have HNx : Hid (FoAt o S w0 r2 (some ⟨g, off + (i + 1) * 5, none⟩) (n - (i + 1)) ∧ szF r2 ≤ N ∧ hdsR r2 = true ∧ T' ++ ((if i = 0 then [] else sep.data.toList) ++ (txE (h2, k2) ++ allB sep.data.toList false (txF r2))) = T ++ X) := by
        refine ⟨hr2, by omega, hR2.2.2, ?_⟩
        have := HG.out.2.2.2
        simp only [txF, allB] at this
        rw [← this]
        by_cases h0 : i = 0 <;> simp [h0, txE]
      have x0 := keepc HT.out.1.low c0
      have x1 := keepc HT.out.1.low c1
      have x2 := keepc HT.out.1.low c2
      have x3 := keepc HT.out.1.low c3
      have x4 := keepc HT.out.1.low c4
      have HA : Hid (Sh w0 b T' (wr.alloc (.cells #[.int .i64 h2.kind, .int .i64 h2.num, .string (bs h2.text), .slice ka2 kc2 kk2, .int .i64 h2.pl] 40)) ∧ Keep w (wr.alloc (.cells #[.int .i64 h2.kind, .int .i64 h2.num, .string (bs h2.text), .slice ka2 kc2 kk2, .int .i64 h2.pl] 40)) ∧ (wr.alloc (.cells #[.int .i64 h2.kind, .int .i64 h2.num, .string (bs h2.text), .slice ka2 kc2 kk2, .int .i64 h2.pl] 40)).heap[wr.heap.size]? = some (.cells #[.int .i64 h2.kind, .int .i64 h2.num, .string (bs h2.text), .slice ka2 kc2 kk2, .int .i64 h2.pl] 40 (0, 0)) ∧ T'.length ≤ 4000) := ⟨HT.out.1.next (low_alloc _ _), HT.out.2.2.trans (keep_alloc _ _), heap_alloc_new wr _, HT.out.2.1⟩
      clear HG hok hkc hk2 hr2 hR2 hN2 HT c0 c1 c2 c3 c4
      by_cases h0 : i = 0
      · have hgt : decide ((0 : Int) < (i : Int)) = false := by simp; omega
        have hgn : ¬ 0 < i := by omega
        have HNz : Hid (T' ++ (txE (h2, k2) ++ allB sep.data.toList false (txF r2)) = T ++ X) := by have := HNx.out.2.2.2; rw [if_pos h0] at this; exact this
        clear h0
        go_wp2_with fail
        refine (HLE.out T' _ HA.out.1 HA.out.2.2.2).mono ?_
        rintro e' w3 ⟨z, rfl, hb3, hk3, ht3, hf3⟩
        clear x0 x1 x2 x3 x4
        cases z with
        | false =>
          have HP : Hid (LPost w0 b T X w (.returned (.bool false)) w3) := ⟨false, rfl, hb3, HA.out.2.1.trans hk3, (fun e => by cases e), fun _ => by rw [← HNz.out]; have := hf3 rfl; simp only [List.length_append] at this ⊢; omega⟩
          clear hb3 hk3 ht3 hf3
          go_wp2
          go_ret
          exact HP.out
        | true =>
          obtain ⟨hS3, hT3⟩ := ht3 rfl
          have HT3 : Hid (Sh w0 b (T' ++ txE (h2, k2)) w3 ∧ (T' ++ txE (h2, k2)).length ≤ 4000 ∧ Keep w w3) := ⟨hS3, hT3, HA.out.2.1.trans hk3⟩
          clear hb3 hk3 ht3 hf3 hS3 hT3
          go_wp2_with fail
          go_roundg (gk - 1)
          case measure => omega
          case rel => exact ⟨r2, i + 1, T' ++ txE (h2, k2), by go_num, by omega, ⟨HNx.out.1, HNx.out.2.1, HNx.out.2.2.1, by rw [decide_eq_false (by omega), List.append_assoc]; exact HNz.out⟩, HT3.out⟩
      · have hgt : decide ((0 : Int) < (i : Int)) = true := by simp; omega
        have HNz : Hid (T' ++ (sep.data.toList ++ (txE (h2, k2) ++ allB sep.data.toList false (txF r2))) = T ++ X) := by have := HNx.out.2.2.2; rw [if_neg h0] at this; exact this
        have HLy2 : Hid (Calls Tryd.prog 18 #[.pointer (some ⟨b, 0, none⟩), .slice (some ⟨wr.heap.size + 1, 0, none⟩) 1 1] ((wr.alloc (.cells #[.int .i64 h2.kind, .int .i64 h2.num, .string (bs h2.text), .slice ka2 kc2 kk2, .int .i64 h2.pl] 40)).alloc (.cells #[.string sep] 9)) (LPost w0 b T' sep.data.toList (wr.alloc (.cells #[.int .i64 h2.kind, .int .i64 h2.num, .string (bs h2.text), .slice ka2 kc2 kk2, .int .i64 h2.pl] 40)))) := by
          have := HLy.out T' _ HA.out.1 HA.out.2.2.2
          rw [show (wr.alloc (.cells #[.int .i64 h2.kind, .int .i64 h2.num, .string (bs h2.text), .slice ka2 kc2 kk2, .int .i64 h2.pl] 40)).heap.size = wr.heap.size + 1 by simp] at this
          exact this
        go_wp2_with fail
        refine HLy2.out.mono ?_
        rintro e' w3 ⟨z, rfl, hb3, hk3, ht3, hf3⟩
        clear x0 x1 x2 x3 x4
        cases z with
        | false =>
          have HP : Hid (LPost w0 b T X w (.returned (.bool false)) w3) := ⟨false, rfl, hb3, HA.out.2.1.trans hk3, (fun e => by cases e), fun _ => by rw [← HNz.out]; have := hf3 rfl; simp only [List.length_append] at this ⊢; omega⟩
          clear hb3 hk3 ht3 hf3
          go_wp2
          go_ret
          exact HP.out
        | true =>
          obtain ⟨hS3, hT3⟩ := ht3 rfl
          have hbx := hk3.cells HA.out.2.2.1 (by decide) (by decide)
          have x0 := blk (i := 0) hbx rfl
          have x1 := blk (i := 1) hbx rfl
          have x2 := blk (i := 2) hbx rfl
          have x3 := blk (i := 3) hbx rfl
          have x4 := blk (i := 4) hbx rfl
          have HT3 : Hid (Sh w0 b (T' ++ sep.data.toList) w3 ∧ (T' ++ sep.data.toList).length ≤ 4000 ∧ Keep w w3) := ⟨hS3, hT3, HA.out.2.1.trans hk3⟩
          clear hb3 hk3 ht3 hf3 hS3 hT3 hbx HLy2
          go_wp2_with fail
          refine (HLE.out _ _ HT3.out.1 HT3.out.2.1).mono ?_
          rintro e' w4 ⟨z, rfl, hb4, hk4, ht4, hf4⟩
          clear x0 x1 x2 x3 x4
          cases z with
          | false =>
            have HP : Hid (LPost w0 b T X w (.returned (.bool false)) w4) := ⟨false, rfl, hb4, HT3.out.2.2.trans hk4, (fun e => by cases e), fun _ => by rw [← HNz.out]; have := hf4 rfl; simp only [List.length_append] at this ⊢; omega⟩
            clear hb4 hk4 ht4 hf4
            go_wp2
            go_ret
            exact HP.out
          | true =>
            obtain ⟨hS4, hT4⟩ := ht4 rfl
            have HT4 : Hid (Sh w0 b (T' ++ sep.data.toList ++ txE (h2, k2)) w4 ∧ (T' ++ sep.data.toList ++ txE (h2, k2)).length ≤ 4000 ∧ Keep w w4) := ⟨hS4, hT4, HT3.out.2.2.trans hk4⟩
            clear hb4 hk4 ht4 hf4 hS4 hT4
            go_wp2_with fail
            go_roundg (gk - 1)
            case measure => omega
            case rel => exact ⟨r2, i + 1, T' ++ sep.data.toList ++ txE (h2, k2), by go_num, by omega, ⟨HNx.out.1, HNx.out.2.1, HNx.out.2.2.1, by rw [decide_eq_false (by omega), List.append_assoc, List.append_assoc]; exact HNz.out⟩, HT4.out⟩
    · have hdi : decide ((i : Int) < (n : Int)) = false := by simp; omega
      have HP : Hid (LPost w0 b T X w (.returned (.bool true)) wr) := by
        obtain ⟨h1, _, _, h4⟩ := HG.out
        rw [show n - i = 0 by omega] at h1
        have hG : G = .nil := by
          cases G with
          | nil => rfl
          | node b0 o0 h2 k r => obtain ⟨_, _, _, _, _, m, hm, _⟩ := h1; omega
        subst hG
        simp only [txF, allB, List.append_nil] at h4
        rw [h4] at HT
        exact ⟨true, rfl, HT.out.1.low, HT.out.2.2, fun _ => ⟨HT.out.1, HT.out.2.1⟩, fun e => by cases e⟩
      clear HG HT
      go_wp2
      go_ret
      exact HP.out

end Go.Proofs.YtpeldiibjhffiaaDoor
namespace Go.Proofs.YtpeldiibjhffiaaDoor
open Go.RowKit Go.Deep

/-- The table of powers, which strconv reads, holds what the program lays there. -/
def TabOk (w : World) : Prop := Lib.TabIs Tryd.prog w "internal/strconv.uint64pow10" .u64 Lib.pow10Tab
theorem TabOk.below {w w' : World} (h : TabOk w) (hb : Below w.heap.size w w') : TabOk w' := Lib.tabBelow_of_tabIs h w' hb
theorem dec_small {z : Int} (h0 : 0 ≤ z) (h1 : z ≤ 72057594037927936) : (Lib.decDigits z.toNat).length ≤ 100 := by
  have h2 := Lib.itoa_length_le (z.toNat : Int) (by omega) (by omega)
  rw [Lib.itoa_nonneg] at h2
  omega
theorem tx_small {l : List UInt8} (h : txB l = true) : (bs l).size ≤ 100 := by
  unfold txB at h
  simp only [Bool.and_eq_true, decide_eq_true_eq] at h
  have := h.1
  rw [← size_toList, bs_data]
  omega
theorem name_small {l : List UInt8} (h : nameB l = true) : (bs l).size ≤ 100 := by
  unfold nameB at h
  simp only [Bool.and_eq_true, decide_eq_true_eq] at h
  have := h.2.2.1
  rw [← size_toList, bs_data]
  omega
set_option maxRecDepth 20000 in
set_option maxHeartbeats 4000000 in
theorem lE_num {w0 : World} {b : Nat} (e : Ex) (ka : Option Addr) (kn kc : Nat) (hk : e.1.kind = 1) (h0 : 0 ≤ e.1.num) (h1 : e.1.num ≤ 72057594037927936) (htab : TabOk w0) (T : List UInt8) (w : World) (hS : Sh w0 b T w) (hT : T.length ≤ 4000) :
    Calls Tryd.prog 28 #[.agg #[.int .i64 e.1.kind, .int .i64 e.1.num, .string (bs e.1.text), .slice ka kn kc, .int .i64 e.1.pl], layV b] w (LPost w0 b T (txE e) w) := by
  have HN : Hid (Sh w0 b T (w.alloc (.cells #[.int .i64 e.1.kind, .int .i64 e.1.num, .string (bs e.1.text), .slice ka kn kc, .int .i64 e.1.pl] 40)) ∧ Keep w (w.alloc (.cells #[.int .i64 e.1.kind, .int .i64 e.1.num, .string (bs e.1.text), .slice ka kn kc, .int .i64 e.1.pl] 40)) ∧ (w.alloc (.cells #[.int .i64 e.1.kind, .int .i64 e.1.num, .string (bs e.1.text), .slice ka kn kc, .int .i64 e.1.pl] 40)).heap[w.heap.size]? = some (.cells #[.int .i64 e.1.kind, .int .i64 e.1.num, .string (bs e.1.text), .slice ka kn kc, .int .i64 e.1.pl] 40 (0, 0)) ∧ T.length ≤ 4000) := ⟨hS.next (low_alloc _ _), keep_alloc _ _, heap_alloc_new w _, hT⟩
  have q1 : (e.1.kind == 1) = true := by rw [hk]; rfl
  have HX : Hid (txE e = Lib.decDigits e.1.num.toNat) := by show exB e.1 _ = _; unfold exB; rw [if_pos hk]
  have HI : Hid (∀ W, Below w0.heap.size w0 W → Calls Tryd.prog 45 #[.int .i64 e.1.num] W fun e' w' => e' = .returned (.string ⟨(Lib.decDigits e.1.num.toNat).toArray⟩) ∧ Below W.heap.size W w') := fun W hW => by
    refine (Tryd.strconv_Itoa e.1.num (by omega) (by omega) W (htab.below hW)).mono ?_
    rintro e' w' ⟨rfl, k, os, rfl⟩
    refine ⟨?_, Lib.below_grow _ _ (Nat.le_refl _) _ _⟩
    have hz : ((e.1.num.toNat : Nat) : Int) = e.1.num := by omega
    have h5 := Lib.itoa_nonneg e.1.num.toNat
    rw [hz] at h5
    rw [h5]
  have HSm : Hid ((Lib.decDigits e.1.num.toNat).length ≤ 100) := dec_small h0 h1
  generalize txE e = X at *
  generalize Lib.decDigits e.1.num.toNat = D at *
  clear hS hT hk h0 h1 htab
  go_enter Tryd.func28, Tryd.ntmps28
  go_wp2_with fail
  refine (HI.out _ HN.out.1.low).mono ?_
  rintro e' w2 ⟨rfl, hb2⟩
  have HLy : Hid (Calls Tryd.prog 18 #[.pointer (some ⟨b, 0, none⟩), .slice (some ⟨w2.heap.size, 0, none⟩) 1 1] (w2.alloc (.cells #[.string ⟨D.toArray⟩] 9)) (LPost w0 b T D w2)) := by
    have := lay_one (HN.out.1.next hb2) HN.out.2.2.2 ⟨D.toArray⟩ (by have h5 := HSm.out; show D.toArray.size ≤ 100; simpa using h5)
    exact this
  have HK : Hid (Keep w w2) := HN.out.2.1.trans (Keep.of_below hb2)
  clear hb2 HI
  go_wp2_with fail
  refine HLy.out.mono ?_
  rintro e' w3 ⟨z, rfl, hp⟩
  have HP : Hid (LPost w0 b T X w (.returned (.bool z)) w3) := by
    rw [HX.out]
    exact LPost.from ⟨z, rfl, hp⟩ HK.out
  clear hp HLy
  go_wp2
  go_ret
  exact HP.out
set_option maxRecDepth 20000 in
set_option maxHeartbeats 4000000 in
theorem lE_name {w0 : World} {b : Nat} (e : Ex) (ka : Option Addr) (kn kc : Nat) (hk : e.1.kind = 2) (hs : (bs e.1.text).size ≤ 100) (T : List UInt8) (w : World) (hS : Sh w0 b T w) (hT : T.length ≤ 4000) :
    Calls Tryd.prog 28 #[.agg #[.int .i64 e.1.kind, .int .i64 e.1.num, .string (bs e.1.text), .slice ka kn kc, .int .i64 e.1.pl], layV b] w (LPost w0 b T (txE e) w) := by
  have HN : Hid (Sh w0 b T (w.alloc (.cells #[.int .i64 e.1.kind, .int .i64 e.1.num, .string (bs e.1.text), .slice ka kn kc, .int .i64 e.1.pl] 40)) ∧ Keep w (w.alloc (.cells #[.int .i64 e.1.kind, .int .i64 e.1.num, .string (bs e.1.text), .slice ka kn kc, .int .i64 e.1.pl] 40)) ∧ (w.alloc (.cells #[.int .i64 e.1.kind, .int .i64 e.1.num, .string (bs e.1.text), .slice ka kn kc, .int .i64 e.1.pl] 40)).heap[w.heap.size]? = some (.cells #[.int .i64 e.1.kind, .int .i64 e.1.num, .string (bs e.1.text), .slice ka kn kc, .int .i64 e.1.pl] 40 (0, 0)) ∧ T.length ≤ 4000) := ⟨hS.next (low_alloc _ _), keep_alloc _ _, heap_alloc_new w _, hT⟩
  have q1 : (e.1.kind == 1) = false := by rw [hk]; rfl
  have q2 : (e.1.kind == 2) = true := by rw [hk]; rfl
  have HX : Hid (txE e = e.1.text) := by show exB e.1 _ = _; unfold exB; rw [if_neg (by omega), if_pos hk]
  have HLy : Hid (Calls Tryd.prog 18 #[.pointer (some ⟨b, 0, none⟩), .slice (some ⟨w.heap.size + 1, 0, none⟩) 1 1] ((w.alloc (.cells #[.int .i64 e.1.kind, .int .i64 e.1.num, .string (bs e.1.text), .slice ka kn kc, .int .i64 e.1.pl] 40)).alloc (.cells #[.string (bs e.1.text)] 9)) (LPost w0 b T e.1.text (w.alloc (.cells #[.int .i64 e.1.kind, .int .i64 e.1.num, .string (bs e.1.text), .slice ka kn kc, .int .i64 e.1.pl] 40)))) := by
    have := lay_one HN.out.1 hT (bs e.1.text) hs
    rw [bs_data, show (w.alloc (.cells #[.int .i64 e.1.kind, .int .i64 e.1.num, .string (bs e.1.text), .slice ka kn kc, .int .i64 e.1.pl] 40)).heap.size = w.heap.size + 1 by simp] at this
    exact this
  generalize txE e = X at *
  clear hS hT hk hs
  go_enter Tryd.func28, Tryd.ntmps28
  go_wp2_with fail
  refine HLy.out.mono ?_
  rintro e' w3 ⟨z, rfl, hp⟩
  have HP : Hid (LPost w0 b T X w (.returned (.bool z)) w3) := by
    rw [HX.out]
    exact LPost.from ⟨z, rfl, hp⟩ HN.out.2.1
  clear hp HLy
  go_wp2
  go_ret
  exact HP.out
set_option maxRecDepth 20000 in
set_option maxHeartbeats 4000000 in
theorem lE_text {w0 : World} {b : Nat} (e : Ex) (ka : Option Addr) (kn kc : Nat) (hk : e.1.kind = 3) (hs : (bs e.1.text).size ≤ 100) (T : List UInt8) (w : World) (hS : Sh w0 b T w) (hT : T.length ≤ 4000) :
    Calls Tryd.prog 28 #[.agg #[.int .i64 e.1.kind, .int .i64 e.1.num, .string (bs e.1.text), .slice ka kn kc, .int .i64 e.1.pl], layV b] w (LPost w0 b T (txE e) w) := by
  have HN : Hid (Sh w0 b T (w.alloc (.cells #[.int .i64 e.1.kind, .int .i64 e.1.num, .string (bs e.1.text), .slice ka kn kc, .int .i64 e.1.pl] 40)) ∧ Keep w (w.alloc (.cells #[.int .i64 e.1.kind, .int .i64 e.1.num, .string (bs e.1.text), .slice ka kn kc, .int .i64 e.1.pl] 40)) ∧ (w.alloc (.cells #[.int .i64 e.1.kind, .int .i64 e.1.num, .string (bs e.1.text), .slice ka kn kc, .int .i64 e.1.pl] 40)).heap[w.heap.size]? = some (.cells #[.int .i64 e.1.kind, .int .i64 e.1.num, .string (bs e.1.text), .slice ka kn kc, .int .i64 e.1.pl] 40 (0, 0)) ∧ T.length ≤ 4000) := ⟨hS.next (low_alloc _ _), keep_alloc _ _, heap_alloc_new w _, hT⟩
  have q1 : (e.1.kind == 1) = false := by rw [hk]; rfl
  have q2 : (e.1.kind == 2) = false := by rw [hk]; rfl
  have q3 : (e.1.kind == 3) = true := by rw [hk]; rfl
  have HX : Hid (txE e = [34] ++ (e.1.text ++ [34])) := by show exB e.1 _ = _; unfold exB; rw [if_neg (by omega), if_neg (by omega), if_pos hk]
  have HLy : Hid (Calls Tryd.prog 18 #[.pointer (some ⟨b, 0, none⟩), .slice (some ⟨w.heap.size + 1, 0, none⟩) 3 3] ((w.alloc (.cells #[.int .i64 e.1.kind, .int .i64 e.1.num, .string (bs e.1.text), .slice ka kn kc, .int .i64 e.1.pl] 40)).alloc (.cells #[.string ⟨#[34]⟩, .string (bs e.1.text), .string ⟨#[34]⟩] 9)) (LPost w0 b T ([34] ++ (e.1.text ++ [34])) (w.alloc (.cells #[.int .i64 e.1.kind, .int .i64 e.1.num, .string (bs e.1.text), .slice ka kn kc, .int .i64 e.1.pl] 40)))) := by
    have := lay_three HN.out.1 hT ⟨#[34]⟩ (bs e.1.text) ⟨#[34]⟩ (by decide) hs (by decide)
    rw [bs_data, show (w.alloc (.cells #[.int .i64 e.1.kind, .int .i64 e.1.num, .string (bs e.1.text), .slice ka kn kc, .int .i64 e.1.pl] 40)).heap.size = w.heap.size + 1 by simp] at this
    exact this
  generalize txE e = X at *
  clear hS hT hk hs
  go_enter Tryd.func28, Tryd.ntmps28
  go_wp2_with fail
  refine HLy.out.mono ?_
  rintro e' w3 ⟨z, rfl, hp⟩
  have HP : Hid (LPost w0 b T X w (.returned (.bool z)) w3) := by
    rw [HX.out]
    exact LPost.from ⟨z, rfl, hp⟩ HN.out.2.1
  clear hp HLy
  go_wp2
  go_ret
  exact HP.out
set_option maxRecDepth 20000 in
set_option maxHeartbeats 4000000 in
theorem lE_neg {w0 : World} {b : Nat} (e : Ex) (ka : Option Addr) (kn kc : Nat) (hk : e.1.kind = 4) (g off : Nat) (hka : ka = some ⟨g, off, none⟩) (hkn : 1 ≤ kn) (e1 : Ex) (k1 : Option Addr) (n1 c1 : Nat) (cs1 : CellsAt w0 g off (exCells e1.1 k1 n1 c1)) (H1 : LEx w0 b e1 k1 n1 c1) (hX : txE e = [45] ++ brB 2 (e1.1.kind, txE e1)) (T : List UInt8) (w : World) (hS : Sh w0 b T w) (hT : T.length ≤ 4000) :
    Calls Tryd.prog 28 #[.agg #[.int .i64 e.1.kind, .int .i64 e.1.num, .string (bs e.1.text), .slice ka kn kc, .int .i64 e.1.pl], layV b] w (LPost w0 b T (txE e) w) := by
  have HN : Hid (Sh w0 b T (w.alloc (.cells #[.int .i64 e.1.kind, .int .i64 e.1.num, .string (bs e.1.text), .slice ka kn kc, .int .i64 e.1.pl] 40)) ∧ Keep w (w.alloc (.cells #[.int .i64 e.1.kind, .int .i64 e.1.num, .string (bs e.1.text), .slice ka kn kc, .int .i64 e.1.pl] 40)) ∧ (w.alloc (.cells #[.int .i64 e.1.kind, .int .i64 e.1.num, .string (bs e.1.text), .slice ka kn kc, .int .i64 e.1.pl] 40)).heap[w.heap.size]? = some (.cells #[.int .i64 e.1.kind, .int .i64 e.1.num, .string (bs e.1.text), .slice ka kn kc, .int .i64 e.1.pl] 40 (0, 0)) ∧ T.length ≤ 4000) := ⟨hS.next (low_alloc _ _), keep_alloc _ _, heap_alloc_new w _, hT⟩
  have q1 : (e.1.kind == 1) = false := by rw [hk]; rfl
  have q2 : (e.1.kind == 2) = false := by rw [hk]; rfl
  have q3 : (e.1.kind == 3) = false := by rw [hk]; rfl
  have q4 : (e.1.kind == 4) = true := by rw [hk]; rfl
  have HX : Hid (txE e = [45] ++ brB 2 (e1.1.kind, txE e1)) := hX
  have hk0 : ¬ kn = 0 := by omega
  have HK1 : Hid (∀ (T : List UInt8) (w : World), Sh w0 b T w → T.length ≤ 4000 → Calls Tryd.prog 46 #[.agg #[.int .i64 e1.1.kind, .int .i64 e1.1.num, .string (bs e1.1.text), .slice k1 n1 c1, .int .i64 e1.1.pl], .int .i64 2, layV b] w (LPost w0 b T (brB 2 (e1.1.kind, txE e1)) w)) := fun T w h1 h2 => layKid_calls H1 _ T w h1 h2
  have HC : Hid (∀ W, Below w0.heap.size w0 W → (W.cell? ⟨g, off, none⟩ = some (.int .i64 e1.1.kind) ∧ W.cell? ⟨g, off + 1, none⟩ = some (.int .i64 e1.1.num) ∧ W.cell? ⟨g, off + 2, none⟩ = some (.string (bs e1.1.text)) ∧ W.cell? ⟨g, off + 3, none⟩ = some (.slice k1 n1 c1) ∧ W.cell? ⟨g, off + 4, none⟩ = some (.int .i64 e1.1.pl))) := fun W hW => five cs1 hW
  have HLy : Hid (Calls Tryd.prog 18 #[.pointer (some ⟨b, 0, none⟩), .slice (some ⟨w.heap.size + 1, 0, none⟩) 1 1] ((w.alloc (.cells #[.int .i64 e.1.kind, .int .i64 e.1.num, .string (bs e.1.text), .slice ka kn kc, .int .i64 e.1.pl] 40)).alloc (.cells #[.string ⟨#[45]⟩] 9)) (LPost w0 b T [45] (w.alloc (.cells #[.int .i64 e.1.kind, .int .i64 e.1.num, .string (bs e.1.text), .slice ka kn kc, .int .i64 e.1.pl] 40)))) := by
    have := lay_one HN.out.1 hT ⟨#[45]⟩ (by decide)
    rw [show (w.alloc (.cells #[.int .i64 e.1.kind, .int .i64 e.1.num, .string (bs e.1.text), .slice ka kn kc, .int .i64 e.1.pl] 40)).heap.size = w.heap.size + 1 by simp] at this
    exact this
  subst hka
  generalize brB 2 (e1.1.kind, txE e1) = X1 at *
  generalize txE e = X at *
  clear hS hT hk hX cs1 H1 hkn
  go_enter Tryd.func28, Tryd.ntmps28
  go_wp2_with fail
  refine HLy.out.mono ?_
  rintro e' w3 ⟨z, rfl, hb3, hk3, ht3, hf3⟩
  cases z with
  | false =>
    have HP : Hid (LPost w0 b T X w (.returned (.bool false)) w3) := by
      rw [HX.out]
      exact LPost.stop _ hb3 (HN.out.2.1.trans hk3) (hf3 rfl)
    clear hb3 hk3 ht3 hf3
    go_wp2
    go_ret
    exact HP.out
  | true =>
    obtain ⟨hS3, hT3⟩ := ht3 rfl
    have hbx := hk3.cells HN.out.2.2.1 (by decide) (by decide)
    have x3 := blk (i := 3) hbx rfl
    obtain ⟨y0, y1, y2, y3, y4⟩ := HC.out _ hb3
    have HS3 : Hid (Sh w0 b (T ++ [45]) w3 ∧ (T ++ [45]).length ≤ 4000 ∧ Keep w w3) := ⟨hS3, hT3, HN.out.2.1.trans hk3⟩
    clear hb3 hk3 ht3 hf3 hS3 hT3 hbx HLy
    go_wp2_with fail
    refine (HK1.out _ _ HS3.out.1 HS3.out.2.1).mono ?_
    rintro e' w4 ⟨z, rfl, hp⟩
    have HP : Hid (LPost w0 b T X w (.returned (.bool z)) w4) := by
      rw [HX.out]
      exact LPost.after ⟨z, rfl, hp⟩ HS3.out.2.2
    clear hp x3 y0 y1 y2 y3 y4
    go_wp2
    go_ret
    exact HP.out
set_option maxRecDepth 20000 in
set_option maxHeartbeats 4000000 in
theorem lE_min {w0 : World} {b : Nat} (e : Ex) (ka : Option Addr) (kn kc : Nat) (hk : e.1.kind = 8) (HA : ∀ (T : List UInt8) (w : World), Sh w0 b T w → T.length ≤ 4000 → Calls Tryd.prog 30 #[.slice ka kn kc, .string ⟨#[44, 32]⟩, layV b] w (LPost w0 b T (allB [44, 32] true (txF e.2)) w)) (T : List UInt8) (w : World) (hS : Sh w0 b T w) (hT : T.length ≤ 4000) :
    Calls Tryd.prog 28 #[.agg #[.int .i64 e.1.kind, .int .i64 e.1.num, .string (bs e.1.text), .slice ka kn kc, .int .i64 e.1.pl], layV b] w (LPost w0 b T (txE e) w) := by
  have HN : Hid (Sh w0 b T (w.alloc (.cells #[.int .i64 e.1.kind, .int .i64 e.1.num, .string (bs e.1.text), .slice ka kn kc, .int .i64 e.1.pl] 40)) ∧ Keep w (w.alloc (.cells #[.int .i64 e.1.kind, .int .i64 e.1.num, .string (bs e.1.text), .slice ka kn kc, .int .i64 e.1.pl] 40)) ∧ (w.alloc (.cells #[.int .i64 e.1.kind, .int .i64 e.1.num, .string (bs e.1.text), .slice ka kn kc, .int .i64 e.1.pl] 40)).heap[w.heap.size]? = some (.cells #[.int .i64 e.1.kind, .int .i64 e.1.num, .string (bs e.1.text), .slice ka kn kc, .int .i64 e.1.pl] 40 (0, 0)) ∧ T.length ≤ 4000) := ⟨hS.next (low_alloc _ _), keep_alloc _ _, heap_alloc_new w _, hT⟩
  have q1 : (e.1.kind == 1) = false := by rw [hk]; rfl
  have q2 : (e.1.kind == 2) = false := by rw [hk]; rfl
  have q3 : (e.1.kind == 3) = false := by rw [hk]; rfl
  have q4 : (e.1.kind == 4) = false := by rw [hk]; rfl
  have q8 : (e.1.kind == 8) = true := by rw [hk]; rfl
  have HX : Hid (txE e = [109, 105, 110, 40] ++ (allB [44, 32] true (txF e.2) ++ [41])) := by show exB e.1 _ = _; unfold exB; rw [if_neg (by omega), if_neg (by omega), if_neg (by omega), if_neg (by omega), if_pos hk]
  have HAl : Hid (∀ (T : List UInt8) (w : World), Sh w0 b T w → T.length ≤ 4000 → Calls Tryd.prog 30 #[.slice ka kn kc, .string ⟨#[44, 32]⟩, layV b] w (LPost w0 b T (allB [44, 32] true (txF e.2)) w)) := HA
  have HLy : Hid (Calls Tryd.prog 18 #[.pointer (some ⟨b, 0, none⟩), .slice (some ⟨w.heap.size + 1, 0, none⟩) 1 1] ((w.alloc (.cells #[.int .i64 e.1.kind, .int .i64 e.1.num, .string (bs e.1.text), .slice ka kn kc, .int .i64 e.1.pl] 40)).alloc (.cells #[.string ⟨#[109, 105, 110, 40]⟩] 9)) (LPost w0 b T [109, 105, 110, 40] (w.alloc (.cells #[.int .i64 e.1.kind, .int .i64 e.1.num, .string (bs e.1.text), .slice ka kn kc, .int .i64 e.1.pl] 40)))) := by
    have := lay_one HN.out.1 hT ⟨#[109, 105, 110, 40]⟩ (by decide)
    rw [show (w.alloc (.cells #[.int .i64 e.1.kind, .int .i64 e.1.num, .string (bs e.1.text), .slice ka kn kc, .int .i64 e.1.pl] 40)).heap.size = w.heap.size + 1 by simp] at this
    exact this
  generalize allB [44, 32] true (txF e.2) = X1 at *
  generalize txE e = X at *
  clear hS hT hk HA
  go_enter Tryd.func28, Tryd.ntmps28
  go_wp2_with fail
  refine HLy.out.mono ?_
  rintro e' w3 ⟨z, rfl, hb3, hk3, ht3, hf3⟩
  cases z with
  | false =>
    have HP : Hid (LPost w0 b T X w (.returned (.bool false)) w3) := by
      rw [HX.out]
      exact LPost.stop _ hb3 (HN.out.2.1.trans hk3) (hf3 rfl)
    clear hb3 hk3 ht3 hf3
    go_wp2
    go_ret
    exact HP.out
  | true =>
    obtain ⟨hS3, hT3⟩ := ht3 rfl
    have hbx := hk3.cells HN.out.2.2.1 (by decide) (by decide)
    have x3 := blk (i := 3) hbx rfl
    have HS3 : Hid (Sh w0 b (T ++ [109, 105, 110, 40]) w3 ∧ (T ++ [109, 105, 110, 40]).length ≤ 4000 ∧ Keep w w3) := ⟨hS3, hT3, HN.out.2.1.trans hk3⟩
    clear hb3 hk3 ht3 hf3 hS3 hT3 hbx HLy
    go_wp2_with fail
    refine (HAl.out _ _ HS3.out.1 HS3.out.2.1).mono ?_
    rintro e' w4 ⟨z, rfl, hb4, hk4, ht4, hf4⟩
    clear x3
    cases z with
    | false =>
      have HP : Hid (LPost w0 b T X w (.returned (.bool false)) w4) := by
        rw [HX.out]
        exact LPost.after (LPost.stop _ hb4 hk4 (hf4 rfl)) HS3.out.2.2
      clear hb4 hk4 ht4 hf4
      go_wp2
      go_ret
      exact HP.out
    | true =>
      obtain ⟨hS4, hT4⟩ := ht4 rfl
      have HLz : Hid (Calls Tryd.prog 18 #[.pointer (some ⟨b, 0, none⟩), .slice (some ⟨w4.heap.size, 0, none⟩) 1 1] (w4.alloc (.cells #[.string ⟨#[41]⟩] 9)) (LPost w0 b (T ++ [109, 105, 110, 40] ++ X1) [41] w4)) := lay_one hS4 hT4 ⟨#[41]⟩ (by decide)
      have HK4 : Hid (Keep w3 w4) := hk4
      clear hb4 hk4 ht4 hf4 hS4 hT4
      go_wp2_with fail
      refine HLz.out.mono ?_
      rintro e' w5 ⟨z, rfl, hp⟩
      have HP : Hid (LPost w0 b T X w (.returned (.bool z)) w5) := by
        rw [HX.out]
        exact LPost.after (LPost.after ⟨z, rfl, hp⟩ HK4.out) HS3.out.2.2
      clear hp HLz
      go_wp2
      go_ret
      exact HP.out
set_option maxRecDepth 20000 in
set_option maxHeartbeats 4000000 in
theorem lE_max {w0 : World} {b : Nat} (e : Ex) (ka : Option Addr) (kn kc : Nat) (hk : e.1.kind = 9) (HA : ∀ (T : List UInt8) (w : World), Sh w0 b T w → T.length ≤ 4000 → Calls Tryd.prog 30 #[.slice ka kn kc, .string ⟨#[44, 32]⟩, layV b] w (LPost w0 b T (allB [44, 32] true (txF e.2)) w)) (T : List UInt8) (w : World) (hS : Sh w0 b T w) (hT : T.length ≤ 4000) :
    Calls Tryd.prog 28 #[.agg #[.int .i64 e.1.kind, .int .i64 e.1.num, .string (bs e.1.text), .slice ka kn kc, .int .i64 e.1.pl], layV b] w (LPost w0 b T (txE e) w) := by
  have HN : Hid (Sh w0 b T (w.alloc (.cells #[.int .i64 e.1.kind, .int .i64 e.1.num, .string (bs e.1.text), .slice ka kn kc, .int .i64 e.1.pl] 40)) ∧ Keep w (w.alloc (.cells #[.int .i64 e.1.kind, .int .i64 e.1.num, .string (bs e.1.text), .slice ka kn kc, .int .i64 e.1.pl] 40)) ∧ (w.alloc (.cells #[.int .i64 e.1.kind, .int .i64 e.1.num, .string (bs e.1.text), .slice ka kn kc, .int .i64 e.1.pl] 40)).heap[w.heap.size]? = some (.cells #[.int .i64 e.1.kind, .int .i64 e.1.num, .string (bs e.1.text), .slice ka kn kc, .int .i64 e.1.pl] 40 (0, 0)) ∧ T.length ≤ 4000) := ⟨hS.next (low_alloc _ _), keep_alloc _ _, heap_alloc_new w _, hT⟩
  have q1 : (e.1.kind == 1) = false := by rw [hk]; rfl
  have q2 : (e.1.kind == 2) = false := by rw [hk]; rfl
  have q3 : (e.1.kind == 3) = false := by rw [hk]; rfl
  have q4 : (e.1.kind == 4) = false := by rw [hk]; rfl
  have q8 : (e.1.kind == 8) = false := by rw [hk]; rfl
  have q9 : (e.1.kind == 9) = true := by rw [hk]; rfl
  have HX : Hid (txE e = [109, 97, 120, 40] ++ (allB [44, 32] true (txF e.2) ++ [41])) := by show exB e.1 _ = _; unfold exB; rw [if_neg (by omega), if_neg (by omega), if_neg (by omega), if_neg (by omega), if_neg (by omega), if_pos hk]
  have HAl : Hid (∀ (T : List UInt8) (w : World), Sh w0 b T w → T.length ≤ 4000 → Calls Tryd.prog 30 #[.slice ka kn kc, .string ⟨#[44, 32]⟩, layV b] w (LPost w0 b T (allB [44, 32] true (txF e.2)) w)) := HA
  have HLy : Hid (Calls Tryd.prog 18 #[.pointer (some ⟨b, 0, none⟩), .slice (some ⟨w.heap.size + 1, 0, none⟩) 1 1] ((w.alloc (.cells #[.int .i64 e.1.kind, .int .i64 e.1.num, .string (bs e.1.text), .slice ka kn kc, .int .i64 e.1.pl] 40)).alloc (.cells #[.string ⟨#[109, 97, 120, 40]⟩] 9)) (LPost w0 b T [109, 97, 120, 40] (w.alloc (.cells #[.int .i64 e.1.kind, .int .i64 e.1.num, .string (bs e.1.text), .slice ka kn kc, .int .i64 e.1.pl] 40)))) := by
    have := lay_one HN.out.1 hT ⟨#[109, 97, 120, 40]⟩ (by decide)
    rw [show (w.alloc (.cells #[.int .i64 e.1.kind, .int .i64 e.1.num, .string (bs e.1.text), .slice ka kn kc, .int .i64 e.1.pl] 40)).heap.size = w.heap.size + 1 by simp] at this
    exact this
  generalize allB [44, 32] true (txF e.2) = X1 at *
  generalize txE e = X at *
  clear hS hT hk HA
  go_enter Tryd.func28, Tryd.ntmps28
  go_wp2_with fail
  refine HLy.out.mono ?_
  rintro e' w3 ⟨z, rfl, hb3, hk3, ht3, hf3⟩
  cases z with
  | false =>
    have HP : Hid (LPost w0 b T X w (.returned (.bool false)) w3) := by
      rw [HX.out]
      exact LPost.stop _ hb3 (HN.out.2.1.trans hk3) (hf3 rfl)
    clear hb3 hk3 ht3 hf3
    go_wp2
    go_ret
    exact HP.out
  | true =>
    obtain ⟨hS3, hT3⟩ := ht3 rfl
    have hbx := hk3.cells HN.out.2.2.1 (by decide) (by decide)
    have x3 := blk (i := 3) hbx rfl
    have HS3 : Hid (Sh w0 b (T ++ [109, 97, 120, 40]) w3 ∧ (T ++ [109, 97, 120, 40]).length ≤ 4000 ∧ Keep w w3) := ⟨hS3, hT3, HN.out.2.1.trans hk3⟩
    clear hb3 hk3 ht3 hf3 hS3 hT3 hbx HLy
    go_wp2_with fail
    refine (HAl.out _ _ HS3.out.1 HS3.out.2.1).mono ?_
    rintro e' w4 ⟨z, rfl, hb4, hk4, ht4, hf4⟩
    clear x3
    cases z with
    | false =>
      have HP : Hid (LPost w0 b T X w (.returned (.bool false)) w4) := by
        rw [HX.out]
        exact LPost.after (LPost.stop _ hb4 hk4 (hf4 rfl)) HS3.out.2.2
      clear hb4 hk4 ht4 hf4
      go_wp2
      go_ret
      exact HP.out
    | true =>
      obtain ⟨hS4, hT4⟩ := ht4 rfl
      have HLz : Hid (Calls Tryd.prog 18 #[.pointer (some ⟨b, 0, none⟩), .slice (some ⟨w4.heap.size, 0, none⟩) 1 1] (w4.alloc (.cells #[.string ⟨#[41]⟩] 9)) (LPost w0 b (T ++ [109, 97, 120, 40] ++ X1) [41] w4)) := lay_one hS4 hT4 ⟨#[41]⟩ (by decide)
      have HK4 : Hid (Keep w3 w4) := hk4
      clear hb4 hk4 ht4 hf4 hS4 hT4
      go_wp2_with fail
      refine HLz.out.mono ?_
      rintro e' w5 ⟨z, rfl, hp⟩
      have HP : Hid (LPost w0 b T X w (.returned (.bool z)) w5) := by
        rw [HX.out]
        exact LPost.after (LPost.after ⟨z, rfl, hp⟩ HK4.out) HS3.out.2.2
      clear hp HLz
      go_wp2
      go_ret
      exact HP.out
set_option maxRecDepth 20000 in
set_option maxHeartbeats 4000000 in
theorem lE_two {w0 : World} {b : Nat} (e : Ex) (ka : Option Addr) (kn kc : Nat) (hk : e.1.kind = 5 ∨ e.1.kind = 6 ∨ e.1.kind = 7) (T : List UInt8) (HB : ∀ (w : World), Sh w0 b T w → Calls Tryd.prog 47 #[.agg #[.int .i64 e.1.kind, .int .i64 e.1.num, .string (bs e.1.text), .slice ka kn kc, .int .i64 e.1.pl], layV b] w (LPost w0 b T (txE e) w)) (w : World) (hS : Sh w0 b T w) (hT : T.length ≤ 4000) :
    Calls Tryd.prog 28 #[.agg #[.int .i64 e.1.kind, .int .i64 e.1.num, .string (bs e.1.text), .slice ka kn kc, .int .i64 e.1.pl], layV b] w (LPost w0 b T (txE e) w) := by
  have HN : Hid (Sh w0 b T (w.alloc (.cells #[.int .i64 e.1.kind, .int .i64 e.1.num, .string (bs e.1.text), .slice ka kn kc, .int .i64 e.1.pl] 40)) ∧ Keep w (w.alloc (.cells #[.int .i64 e.1.kind, .int .i64 e.1.num, .string (bs e.1.text), .slice ka kn kc, .int .i64 e.1.pl] 40)) ∧ (w.alloc (.cells #[.int .i64 e.1.kind, .int .i64 e.1.num, .string (bs e.1.text), .slice ka kn kc, .int .i64 e.1.pl] 40)).heap[w.heap.size]? = some (.cells #[.int .i64 e.1.kind, .int .i64 e.1.num, .string (bs e.1.text), .slice ka kn kc, .int .i64 e.1.pl] 40 (0, 0)) ∧ T.length ≤ 4000) := ⟨hS.next (low_alloc _ _), keep_alloc _ _, heap_alloc_new w _, hT⟩
  have q1 : (e.1.kind == 1) = false := by rw [beq_eq_false_iff_ne]; omega
  have q2 : (e.1.kind == 2) = false := by rw [beq_eq_false_iff_ne]; omega
  have q3 : (e.1.kind == 3) = false := by rw [beq_eq_false_iff_ne]; omega
  have q4 : (e.1.kind == 4) = false := by rw [beq_eq_false_iff_ne]; omega
  have q8 : (e.1.kind == 8) = false := by rw [beq_eq_false_iff_ne]; omega
  have q9 : (e.1.kind == 9) = false := by rw [beq_eq_false_iff_ne]; omega
  have HBo : Hid (Calls Tryd.prog 47 #[.agg #[.int .i64 e.1.kind, .int .i64 e.1.num, .string (bs e.1.text), .slice ka kn kc, .int .i64 e.1.pl], layV b] (w.alloc (.cells #[.int .i64 e.1.kind, .int .i64 e.1.num, .string (bs e.1.text), .slice ka kn kc, .int .i64 e.1.pl] 40)) (LPost w0 b T (txE e) (w.alloc (.cells #[.int .i64 e.1.kind, .int .i64 e.1.num, .string (bs e.1.text), .slice ka kn kc, .int .i64 e.1.pl] 40)))) := HB _ HN.out.1
  generalize txE e = X at *
  clear hS hT hk HB
  go_enter Tryd.func28, Tryd.ntmps28
  go_wp2_with fail
  refine HBo.out.mono ?_
  rintro e' w3 ⟨z, rfl, hp⟩
  have HP : Hid (LPost w0 b T X w (.returned (.bool z)) w3) := LPost.from ⟨z, rfl, hp⟩ HN.out.2.1
  clear hp HBo
  go_wp2
  go_ret
  exact HP.out
/-- An expression is laid down. -/
theorem layExpr_calls {w0 : World} {b : Nat} {o : Bool} {S : Nat → Prop} (htab : TabOk w0) : ∀ (N : Nat) (e : Ex) (ka : Option Addr) (kn kc : Nat), ExAt o S w0 e ka kn → szF e.2 < N → ExR e → LEx w0 b e ka kn kc
  | 0, _, _, _, _, _, h, _ => by omega
  | N + 1, e, ka, kn, kc, hE, hN, hR => by
    have IH := layExpr_calls (b := b) (o := o) (S := S) htab N
    intro T w hS hT
    obtain ⟨hh, hk⟩ := hR
    have hlen := foAt_len hE.kids
    unfold hdRight at hh
    split at hh
    · rename_i h1
      simp only [Bool.and_eq_true, decide_eq_true_eq] at hh
      exact lE_num e ka kn kc h1 hh.1 hh.2.1 htab T w hS hT
    split at hh
    · rename_i _ h2
      simp only [Bool.and_eq_true, decide_eq_true_eq] at hh
      exact lE_name e ka kn kc h2 (name_small hh.2.1) T w hS hT
    split at hh
    · rename_i _ _ h3
      simp only [Bool.and_eq_true, decide_eq_true_eq] at hh
      exact lE_text e ka kn kc h3 (tx_small hh.2.1) T w hS hT
    split at hh
    · rename_i n1 n2 n3 h4
      simp only [Bool.and_eq_true, decide_eq_true_eq] at hh
      obtain ⟨h, F⟩ := e
      cases F with
      | nil => have := hh.2.2; simp [lenF] at this
      | node b0 o0 h1 k1 r1 =>
        obtain ⟨g, off, k2, n2', c2, m, hm, ha, _, _, hok, hkn, hc, hkk, _⟩ := hE.kids
        simp only [hdsR, Bool.and_eq_true] at hk
        simp only [szF] at hN
        refine lE_neg (h, .node b0 o0 h1 k1 r1) ka kn kc h4 g off ha (by omega) (h1, k1) k2 n2' c2 hc (IH (h1, k1) k2 n2' c2 ⟨hok, hkn, hkk⟩ (by show szF k1 < N; omega) ⟨hk.1, hk.2.1⟩) ?_ T w hS hT
        show exB h _ = _
        unfold exB
        rw [if_neg n1, if_neg n2, if_neg n3, if_pos h4]
        simp [kt, txF, txE]
    split at hh
    · rename_i n1 n2 n3 n4 h5
      have h5' : e.1.kind = 5 ∨ e.1.kind = 6 ∨ e.1.kind = 7 := h5
      simp only [Bool.and_eq_true, decide_eq_true_eq] at hh
      refine lE_two e ka kn kc h5' T (fun w' hS' => ?_) w hS hT
      obtain ⟨h, F⟩ := e
      cases F with
      | nil => have := hh.2.2; simp [lenF] at this
      | node b0 o0 h1 k1 r1 =>
        cases r1 with
        | nil => have := hh.2.2; simp [lenF] at this
        | node b1 o1 h2 k2 r2 =>
          obtain ⟨g, off, ka1, kn1, kc1, m, hm, ha, _, _, hok, hkn, hc, hkk, hrr⟩ := hE.kids
          obtain ⟨g', off', ka2, kn2, kc2, m2, hm2, ha2, _, _, hok2, hkn2, hc2, hkk2, _⟩ := hrr
          cases ha2
          subst ha
          simp only [hdsR, Bool.and_eq_true] at hk
          simp only [szF] at hN
          have hb := layBoth_calls (w0 := w0) (b := b) h g off kn kc (h1, k1) (h2, k2) ka1 ka2 kn1 kc1 kn2 kc2 (by omega) hc hc2 (IH (h1, k1) ka1 kn1 kc1 ⟨hok, hkn, hkk⟩ (by show szF k1 < N; omega) ⟨hk.1, hk.2.1⟩) (IH (h2, k2) ka2 kn2 kc2 ⟨hok2, hkn2, hkk2⟩ (by show szF k2 < N; omega) ⟨hk.2.2.1, hk.2.2.2.1⟩) T w' hS' hT
          have hX : txE (h, .node b0 o0 h1 k1 (.node b1 o1 h2 k2 r2)) = brB (firmB h.kind) (h1.kind, txE (h1, k1)) ++ ([32] ++ (sgnB h.kind ++ [32]) ++ brB (firmB h.kind + 1) (h2.kind, txE (h2, k2))) := by
            have h5'' : h.kind = 5 ∨ h.kind = 6 ∨ h.kind = 7 := h5'
            show exB h _ = _
            unfold exB
            rw [if_neg n1, if_neg n2, if_neg n3, if_neg n4, if_neg (by omega), if_neg (by omega)]
            simp [kt, txF, txE]
          rw [hX]
          exact hb
    split at hh
    · rename_i n1 n2 n3 n4 n5 h8
      have h8' : e.1.kind = 8 ∨ e.1.kind = 9 := h8
      have HA : ∀ (T : List UInt8) (w : World), Sh w0 b T w → T.length ≤ 4000 → Calls Tryd.prog 30 #[.slice ka kn kc, .string ⟨#[44, 32]⟩, layV b] w (LPost w0 b T (allB [44, 32] true (txF e.2)) w) := fun T w h1 h2 => layAll_calls N (fun e ka kn kc a1 a2 a3 => IH e ka kn kc a1 a2 a3) ⟨#[44, 32]⟩ (by decide) e.2 ka kn kc hE.kids hE.few (by omega) hk T w h1 h2
      rcases h8' with h8 | h9
      · exact lE_min e ka kn kc h8 HA T w hS hT
      · exact lE_max e ka kn kc h9 HA T w hS hT
    · cases hh

end Go.Proofs.YtpeldiibjhffiaaDoor
namespace Go.Proofs.YtpeldiibjhffiaaDoor
open Go.RowKit Go.Deep

section
variable {P : Program} {ops : Array Oper} {Q : Exit → Act → World → Prop} {md : Region.Mode} {S : World → Prop} {x : Nat}
/-- As the law of one load that is taken first, where no operation is exempt. -/
theorem wpAnyX_first0 {i : Nat} {oi : Oper} {v : Value} (hi : ops[i]? = some oi) (hsel : ∀ (j : Nat) (o : Oper) cs b, ops[j]? = some o → o.op ≠ .select cs b)
    (hQ : ∀ c a w, Q (.panic c) (a.put oi.dst v) w → Q (.panic c) a w) (hx : ops.size ≤ x) :
    ∀ (fuel : Nat) (listed : Array Bool) (a : Act) (w : World),
      (∀ j oj, ops[j]? = some oj → j ≠ i → listed.getD j true = false → (∀ e ∈ oj.after, Region.binds md e = true → e.on ≠ i) → oi.apart ops oj = true) →
      i ∈ Region.ready md ops listed → YieldsIf P ops S oi v a → S w →
      wpAnyX P md ops Q S x fuel (listed.setIfInBounds i true) (a.put oi.dst v) w → wpAnyX P md ops Q S x (fuel + 1) listed a w := by
  intro fuel
  induction fuel with
  | zero =>
    intro listed a w _ hr hy hS H
    refine ⟨fun h => (by rw [h] at hr; cases hr), fun j hj => ?_⟩
    by_cases hji : j = i
    · subst hji; exact hy.wpOp hi hS ⟨fun _ => hS, H⟩
    · have := ready_mono hj hji
      rw [H.1] at this
      cases this
  | succ fuel ih =>
    intro listed a w hfree hr hy hS H
    refine ⟨fun h => (by rw [h] at hr; cases hr), fun j hj => ?_⟩
    by_cases hji : j = i
    · subst hji; exact hy.wpOp hi hS ⟨fun _ => hS, H⟩
    · have h1 := H.2 j (ready_mono hj hji)
      obtain ⟨hjun, oj, hoj, hall⟩ := mem_ready.1 hj
      have hjx : j ≠ x := by
        have := (Array.getElem?_eq_some_iff.1 hoj).1
        omega
      have hnot : ∀ e ∈ oj.after, Region.binds md e = true → e.on ≠ i := fun e he hb heq => by
        have h1 := hall e he hb
        have h0 := (mem_ready.1 hr).1
        rw [heq] at h1
        rcases Nat.lt_or_ge i listed.size with h' | h'
        · simp [h'] at h0 h1; rw [h0] at h1; cases h1
        · simp [Array.getElem?_eq_none h'] at h1
      have h2 := wpOp_putIf hoj (hfree j oj hoj hji hjun hnot) (fun cs b => hsel i oi cs b hi) (fun cs b => hsel j oj cs b hoj) hQ hy h1
      have hfree' : ∀ k ok, ops[k]? = some ok → k ≠ i → (listed.setIfInBounds j true).getD k true = false →
          (∀ e ∈ ok.after, Region.binds md e = true → e.on ≠ i) → oi.apart ops ok = true := fun k ok hk hki hun hno => by
        refine hfree k ok hk hki ?_ hno
        by_cases hjk : j = k
        · subst hjk; exact hjun
        · rw [getD_set_ne true hjk] at hun; exact hun
      refine wpOp_mono (fun a' w' h3 => ⟨h3.2.1, ih (listed.setIfInBounds j true) a' w' hfree' (ready_mono hr (Ne.symm hji)) h3.1 (h3.2.1 hjx) ?_⟩) h2
      rw [Array.setIfInBounds_comm _ _ hji]
      exact h3.2.2
theorem wpAnyX_take0 {i : Nat} {oi : Oper} {v : Value} {fuel : Nat} {listed : Array Bool} {a : Act} {w : World} (hi : ops[i]? = some oi)
    (hs : Region.noSelect ops = true) (hx : ops.size ≤ x) (hf : Region.free md ops listed i = true) (hr : (Region.ready md ops listed).contains i = true)
    (hQ : ∀ c a w, Q (.panic c) (a.put oi.dst v) w → Q (.panic c) a w) (hS : S w) (hy : YieldsIf P ops S oi v a)
    (h : wpAnyX P md ops Q S x fuel (listed.setIfInBounds i true) (a.put oi.dst v) w) : wpAnyX P md ops Q S x (fuel + 1) listed a w :=
  wpAnyX_first0 hi (Region.noSelect_spec hs) hQ hx fuel listed a w (Region.free_spec hi hf) (by simpa using hr) hy hS h
end
theorem way_small {l : List UInt8} (h : isWayB l = true) : (bs l).size ≤ 100 := by
  unfold isWayB at h
  simp only [Bool.or_eq_true, decide_eq_true_eq] at h
  rw [← size_toList, bs_data]
  rcases h with ((h | h) | h) | h <;> rw [h] <;> decide
theorem word_small (k : Int) : (bs (wordI k)).size ≤ 100 := by
  unfold wordI
  repeat' split
  all_goals decide
set_option maxRecDepth 20000 in
set_option maxHeartbeats 4000000 in
theorem layHead_calls {w0 : World} {b : Nat} (i : It) (ka : Option Addr) (kn kc : Nat) (hs : (bs i.name).size ≤ 100) (T : List UInt8) (w : World) (hS : Sh w0 b T w) (hT : T.length ≤ 4000) :
    Calls Tryd.prog 29 #[.agg #[.int .i64 i.kind, .string (bs i.name), .slice ka kn kc, .int .i64 i.pl], layV b] w (LPost w0 b T (headI i) w) := by
  have HN : Hid (Sh w0 b T (w.alloc (.cells #[.int .i64 i.kind, .string (bs i.name), .slice ka kn kc, .int .i64 i.pl] 37)) ∧ Keep w (w.alloc (.cells #[.int .i64 i.kind, .string (bs i.name), .slice ka kn kc, .int .i64 i.pl] 37))) := ⟨hS.next (low_alloc _ _), keep_alloc _ _⟩
  by_cases h1 : i.kind = 1
  · have q1 : (i.kind == 1) = true := by rw [h1]; rfl
    have HX : Hid (headI i = [108, 101, 116, 32] ++ (i.name ++ [32, 61, 32])) := by show _ = _; unfold headI; rw [if_pos h1]
    have HLy : Hid (Calls Tryd.prog 18 #[.pointer (some ⟨b, 0, none⟩), .slice (some ⟨w.heap.size + 1, 0, none⟩) 3 3] ((w.alloc (.cells #[.int .i64 i.kind, .string (bs i.name), .slice ka kn kc, .int .i64 i.pl] 37)).alloc (.cells #[.string ⟨#[108, 101, 116, 32]⟩, .string (bs i.name), .string ⟨#[32, 61, 32]⟩] 9)) (LPost w0 b T ([108, 101, 116, 32] ++ (i.name ++ [32, 61, 32])) (w.alloc (.cells #[.int .i64 i.kind, .string (bs i.name), .slice ka kn kc, .int .i64 i.pl] 37)))) := by
      have := lay_three HN.out.1 hT ⟨#[108, 101, 116, 32]⟩ (bs i.name) ⟨#[32, 61, 32]⟩ (by decide) hs (by decide)
      rw [bs_data, show (w.alloc (.cells #[.int .i64 i.kind, .string (bs i.name), .slice ka kn kc, .int .i64 i.pl] 37)).heap.size = w.heap.size + 1 by simp] at this
      exact this
    generalize headI i = X at *
    clear hS hT h1 hs
    go_enter Tryd.func29, Tryd.ntmps29
    go_wp2_with fail
    refine HLy.out.mono ?_
    rintro e' w3 ⟨z, rfl, hp⟩
    have HP : Hid (LPost w0 b T X w (.returned (.bool z)) w3) := by
      rw [HX.out]
      exact LPost.from ⟨z, rfl, hp⟩ HN.out.2
    clear hp HLy
    go_wp2
    go_ret
    exact HP.out
  have q1 : (i.kind == 1) = false := by rw [beq_eq_false_iff_ne]; exact h1
  by_cases h7 : i.kind = 7
  · have q7 : (i.kind == 7) = true := by rw [h7]; rfl
    have HX : Hid (headI i = [109, 111, 100, 101, 32] ++ i.name) := by show _ = _; unfold headI; rw [if_neg h1, if_pos h7]
    have HLy : Hid (Calls Tryd.prog 18 #[.pointer (some ⟨b, 0, none⟩), .slice (some ⟨w.heap.size + 1, 0, none⟩) 2 2] ((w.alloc (.cells #[.int .i64 i.kind, .string (bs i.name), .slice ka kn kc, .int .i64 i.pl] 37)).alloc (.cells #[.string ⟨#[109, 111, 100, 101, 32]⟩, .string (bs i.name)] 9)) (LPost w0 b T ([109, 111, 100, 101, 32] ++ i.name) (w.alloc (.cells #[.int .i64 i.kind, .string (bs i.name), .slice ka kn kc, .int .i64 i.pl] 37)))) := by
      have := lay_two HN.out.1 hT ⟨#[109, 111, 100, 101, 32]⟩ (bs i.name) (by decide) hs
      rw [bs_data, show (w.alloc (.cells #[.int .i64 i.kind, .string (bs i.name), .slice ka kn kc, .int .i64 i.pl] 37)).heap.size = w.heap.size + 1 by simp] at this
      exact this
    generalize headI i = X at *
    clear hS hT h1 h7 hs
    go_enter Tryd.func29, Tryd.ntmps29
    go_wp2_with fail
    refine HLy.out.mono ?_
    rintro e' w3 ⟨z, rfl, hp⟩
    have HP : Hid (LPost w0 b T X w (.returned (.bool z)) w3) := by
      rw [HX.out]
      exact LPost.from ⟨z, rfl, hp⟩ HN.out.2
    clear hp HLy
    go_wp2
    go_ret
    exact HP.out
  have q7 : (i.kind == 7) = false := by rw [beq_eq_false_iff_ne]; exact h7
  have HX : Hid (headI i = wordI i.kind ++ [32]) := by show _ = _; unfold headI; rw [if_neg h1, if_neg h7]
  have HW : Hid (∀ w, Calls Tryd.prog 48 #[.int .i64 i.kind] w fun e w' => e = .returned (.string (bs (wordI i.kind))) ∧ w = w') := fun w => word_calls' _ w
  have HLy : Hid (Calls Tryd.prog 18 #[.pointer (some ⟨b, 0, none⟩), .slice (some ⟨w.heap.size + 1, 0, none⟩) 2 2] ((w.alloc (.cells #[.int .i64 i.kind, .string (bs i.name), .slice ka kn kc, .int .i64 i.pl] 37)).alloc (.cells #[.string (bs (wordI i.kind)), .string ⟨#[32]⟩] 9)) (LPost w0 b T (wordI i.kind ++ [32]) (w.alloc (.cells #[.int .i64 i.kind, .string (bs i.name), .slice ka kn kc, .int .i64 i.pl] 37)))) := by
    have := lay_two HN.out.1 hT (bs (wordI i.kind)) ⟨#[32]⟩ (word_small _) (by decide)
    rw [bs_data, show (w.alloc (.cells #[.int .i64 i.kind, .string (bs i.name), .slice ka kn kc, .int .i64 i.pl] 37)).heap.size = w.heap.size + 1 by simp] at this
    exact this
  generalize headI i = X at *
  generalize wordI i.kind ++ [32] = X1 at *
  generalize bs (wordI i.kind) = wd at *
  clear hS hT h1 h7 hs
  go_enter Tryd.func29, Tryd.ntmps29
  go_wp2_with fail
  refine (HW.out _).mono ?_
  rintro e' w2 ⟨rfl, rfl⟩
  clear HW
  go_wp2_with fail
  refine HLy.out.mono ?_
  rintro e' w3 ⟨z, rfl, hp⟩
  have HP : Hid (LPost w0 b T X w (.returned (.bool z)) w3) := by
    rw [HX.out]
    exact LPost.from ⟨z, rfl, hp⟩ HN.out.2
  clear hp HLy
  go_wp2
  go_ret
  exact HP.out
set_option maxRecDepth 20000 in
set_option maxHeartbeats 8000000 in
theorem layItem_calls {w0 : World} {b : Nat} (i : It) (ka : Option Addr) (kn kc : Nat) (hs : (bs i.name).size ≤ 100)
    (HA : ∀ (T : List UInt8) (w : World), Sh w0 b T w → T.length ≤ 4000 → Calls Tryd.prog 30 #[.slice ka kn kc, .string (bs (signI i.kind)), layV b] w (LPost w0 b T (allB (signI i.kind) true (txF i.args)) w)) (T : List UInt8) (w : World) (hS : Sh w0 b T w) (hT : T.length ≤ 4000) :
    Calls Tryd.prog 17 #[.agg #[.int .i64 i.kind, .string (bs i.name), .slice ka kn kc, .int .i64 i.pl], layV b] w (LPost w0 b T (itB i) w) := by
  have hb1 : Below w.heap.size w (w.alloc (.cells #[.int .i64 i.kind, .string (bs i.name), .slice ka kn kc, .int .i64 i.pl] 37)).drew := (low_alloc _ _).drew
  have HN : Hid (Sh w0 b T (w.alloc (.cells #[.int .i64 i.kind, .string (bs i.name), .slice ka kn kc, .int .i64 i.pl] 37)).drew ∧ Keep w (w.alloc (.cells #[.int .i64 i.kind, .string (bs i.name), .slice ka kn kc, .int .i64 i.pl] 37)).drew) := ⟨hS.next hb1, Keep.of_below hb1⟩
  have HSx : (fun W : World => W.heap[w.heap.size]? = some (.cells #[.int .i64 i.kind, .string (bs i.name), .slice ka kn kc, .int .i64 i.pl] 37 (0, 0))) (w.alloc (.cells #[.int .i64 i.kind, .string (bs i.name), .slice ka kn kc, .int .i64 i.pl] 37)).drew := heap_alloc_new w _
  have HHd : Hid (∀ (T : List UInt8) (w : World), Sh w0 b T w → T.length ≤ 4000 → Calls Tryd.prog 29 #[.agg #[.int .i64 i.kind, .string (bs i.name), .slice ka kn kc, .int .i64 i.pl], layV b] w (LPost w0 b T (headI i) w)) := fun T w h1 h2 => layHead_calls i ka kn kc hs T w h1 h2
  have HAl : Hid (∀ (T : List UInt8) (w : World), Sh w0 b T w → T.length ≤ 4000 → Calls Tryd.prog 30 #[.slice ka kn kc, .string (bs (signI i.kind)), layV b] w (LPost w0 b T (allB (signI i.kind) true (txF i.args)) w)) := HA
  have HSg : Hid (∀ w, Calls Tryd.prog 31 #[.int .i64 i.kind] w fun e w' => e = .returned (.string (bs (signI i.kind))) ∧ w = w') := fun w => sign_calls' _ w
  have HX : Hid (itB i = headI i ++ (allB (signI i.kind) true (txF i.args) ++ [59, 10])) := rfl
  have HTl : Hid (T.length ≤ 4000) := hT
  generalize itB i = X at *
  generalize headI i = X1 at *
  generalize allB (signI i.kind) true (txF i.args) = X2 at *
  generalize bs (signI i.kind) = sg at *
  clear hS hT hs HA hb1
  go_enter Tryd.func17, Tryd.ntmps17
  go_wp2_with fail
  refine wp_region_X 18 (fun W : World => W.heap[w.heap.size]? = some (.cells #[.int .i64 i.kind, .string (bs i.name), .slice ka kn kc, .int .i64 i.pl] 37 (0, 0))) (by kernel_rfl) ?_
  refine wpAnyX_take0 (i := 0) (v := .agg #[.int .i64 i.kind, .string (bs i.name), .slice ka kn kc, .int .i64 i.pl]) rfl (by kernel_rfl) (by decide) (by kernel_rfl) (by kernel_rfl) (fun _ _ _ h => h) HSx (Or.inl ⟨by rfl, by (intro W hW; have z0 := blk (i := 0) hW rfl; have z1 := blk (i := 1) hW rfl; have z2 := blk (i := 2) hW rfl; have z3 := blk (i := 3) hW rfl; go_simp)⟩) ?_
  simp only [Act.put]
  refine wpAnyX_take0 (i := 1) (v := layV b) rfl (by kernel_rfl) (by decide) (by kernel_rfl) (by kernel_rfl) (fun _ _ _ h => h) HSx (Or.inl ⟨by rfl, by (intro W hW; go_simp)⟩) ?_
  simp only [Act.put]
  refine wpAnyX_one (i := 2) rfl (by kernel_rfl) (fun K hK => ?_)
  go_simp
  refine (HHd.out T _ HN.out.1 HTl.out).mono ?_
  rintro e' w3 ⟨z, rfl, hb3, hk3, ht3, hf3⟩
  have HSy := hk3.cells HSx (by decide) (by decide)
  have HSx : (fun W : World => W.heap[w.heap.size]? = some (.cells #[.int .i64 i.kind, .string (bs i.name), .slice ka kn kc, .int .i64 i.pl] 37 (0, 0))) w3 := HSy
  refine hK.out _ _ (fun _ => HSx) ?_
  clear hK K
  cases z with
  | false =>
    have HP : Hid (LPost w0 b T X w (.returned (.bool false)) w3) := by
      rw [HX.out]
      exact LPost.stop _ hb3 (HN.out.2.trans hk3) (hf3 rfl)
    clear hb3 hk3 ht3 hf3
    refine wpAnyX_one (i := 3) rfl (by kernel_rfl) (fun K hK => ?_)
    go_simp
    refine hK.out _ _ (fun _ => HSx) ?_
    clear hK K
    refine wpAnyX_take0 (i := 4) (v := undef) rfl (by kernel_rfl) (by decide) (by kernel_rfl) (by kernel_rfl) (fun _ _ _ h => h) HSx (Or.inr ⟨by rfl, rfl⟩) ?_
    simp only [Act.put]
    refine wpAnyX_take0 (i := 5) (v := undef) rfl (by kernel_rfl) (by decide) (by kernel_rfl) (by kernel_rfl) (fun _ _ _ h => h) HSx (Or.inr ⟨by rfl, rfl⟩) ?_
    simp only [Act.put]
    refine wpAnyX_take0 (i := 6) (v := undef) rfl (by kernel_rfl) (by decide) (by kernel_rfl) (by kernel_rfl) (fun _ _ _ h => h) HSx (Or.inr ⟨by rfl, rfl⟩) ?_
    simp only [Act.put]
    refine wpAnyX_take0 (i := 7) (v := undef) rfl (by kernel_rfl) (by decide) (by kernel_rfl) (by kernel_rfl) (fun _ _ _ h => h) HSx (Or.inr ⟨by rfl, rfl⟩) ?_
    simp only [Act.put]
    refine wpAnyX_take0 (i := 9) (v := undef) rfl (by kernel_rfl) (by decide) (by kernel_rfl) (by kernel_rfl) (fun _ _ _ h => h) HSx (Or.inr ⟨by rfl, rfl⟩) ?_
    simp only [Act.put]
    refine wpAnyX_one (i := 8) rfl (by kernel_rfl) (fun K hK => ?_)
    go_simp
    refine hK.out _ _ (fun _ => HSx) ?_
    clear hK K
    refine wpAnyX_one (i := 10) rfl (by kernel_rfl) (fun K hK => ?_)
    go_simp
    refine hK.out _ _ (fun _ => HSx) ?_
    clear hK K
    refine wpAnyX_one (i := 11) rfl (by kernel_rfl) (fun K hK => ?_)
    go_simp
    refine hK.out _ _ (fun _ => HSx) ?_
    clear hK K
    refine wpAnyX_one (i := 12) rfl (by kernel_rfl) (fun K hK => ?_)
    go_simp
    refine hK.out _ _ (fun _ => HSx) ?_
    clear hK K
    refine wpAnyX_take0 (i := 13) (v := undef) rfl (by kernel_rfl) (by decide) (by kernel_rfl) (by kernel_rfl) (fun _ _ _ h => h) HSx (Or.inr ⟨by rfl, rfl⟩) ?_
    simp only [Act.put]
    refine wpAnyX_one (i := 14) rfl (by kernel_rfl) (fun K hK => ?_)
    go_simp
    refine hK.out _ _ (fun _ => HSx) ?_
    clear hK K
    refine wpAnyX_one (i := 15) rfl (by kernel_rfl) (fun K hK => ?_)
    go_simp
    refine hK.out _ _ (fun _ => HSx) ?_
    clear hK K
    refine wpAnyX_one (i := 16) rfl (by kernel_rfl) (fun K hK => ?_)
    go_simp
    refine hK.out _ _ (fun _ => HSx) ?_
    clear hK K
    refine wpAnyX_one (i := 17) rfl (by kernel_rfl) (fun K hK => ?_)
    go_simp
    refine hK.out _ _ (fun _ => HSx) ?_
    clear hK K
    refine wpAnyX_done (by kernel_rfl) ?_ _
    go_wp2
    go_ret
    exact HP.out
  | true =>
    obtain ⟨hS3, hT3⟩ := ht3 rfl
    have HS3 : Hid (Sh w0 b (T ++ X1) w3 ∧ (T ++ X1).length ≤ 4000 ∧ Keep w w3) := ⟨hS3, hT3, HN.out.2.trans hk3⟩
    clear hb3 hk3 ht3 hf3 hS3 hT3 HSy
    refine wpAnyX_one (i := 3) rfl (by kernel_rfl) (fun K hK => ?_)
    go_simp
    refine hK.out _ _ (fun _ => HSx) ?_
    clear hK K
    refine wpAnyX_take0 (i := 4) (v := .pointer (some ⟨w.heap.size, 2, none⟩)) rfl (by kernel_rfl) (by decide) (by kernel_rfl) (by kernel_rfl) (fun _ _ _ h => h) HSx (Or.inl ⟨by rfl, by (intro W hW; go_simp)⟩) ?_
    simp only [Act.put]
    refine wpAnyX_take0 (i := 5) (v := .slice ka kn kc) rfl (by kernel_rfl) (by decide) (by kernel_rfl) (by kernel_rfl) (fun _ _ _ h => h) HSx (Or.inl ⟨by rfl, by (intro W hW; have z0 := blk (i := 0) hW rfl; have z1 := blk (i := 1) hW rfl; have z2 := blk (i := 2) hW rfl; have z3 := blk (i := 3) hW rfl; go_simp)⟩) ?_
    simp only [Act.put]
    refine wpAnyX_take0 (i := 6) (v := .pointer (some ⟨w.heap.size, 0, none⟩)) rfl (by kernel_rfl) (by decide) (by kernel_rfl) (by kernel_rfl) (fun _ _ _ h => h) HSx (Or.inl ⟨by rfl, by (intro W hW; go_simp)⟩) ?_
    simp only [Act.put]
    refine wpAnyX_take0 (i := 7) (v := .int .i64 i.kind) rfl (by kernel_rfl) (by decide) (by kernel_rfl) (by kernel_rfl) (fun _ _ _ h => h) HSx (Or.inl ⟨by rfl, by (intro W hW; have z0 := blk (i := 0) hW rfl; have z1 := blk (i := 1) hW rfl; have z2 := blk (i := 2) hW rfl; have z3 := blk (i := 3) hW rfl; go_simp)⟩) ?_
    simp only [Act.put]
    refine wpAnyX_take0 (i := 9) (v := layV b) rfl (by kernel_rfl) (by decide) (by kernel_rfl) (by kernel_rfl) (fun _ _ _ h => h) HSx (Or.inl ⟨by rfl, by (intro W hW; go_simp)⟩) ?_
    simp only [Act.put]
    refine wpAnyX_one (i := 8) rfl (by kernel_rfl) (fun K hK => ?_)
    go_simp
    refine (HSg.out _).mono ?_
    rintro e' w4 ⟨rfl, rfl⟩
    refine hK.out _ _ (fun _ => HSx) ?_
    clear hK K
    refine wpAnyX_one (i := 10) rfl (by kernel_rfl) (fun K hK => ?_)
    go_simp
    refine (HAl.out _ _ HS3.out.1 HS3.out.2.1).mono ?_
    rintro e' w5 ⟨z, rfl, hb5, hk5, ht5, hf5⟩
    have HSy := hk5.cells HSx (by decide) (by decide)
    have HSx : (fun W : World => W.heap[w.heap.size]? = some (.cells #[.int .i64 i.kind, .string (bs i.name), .slice ka kn kc, .int .i64 i.pl] 37 (0, 0))) w5 := HSy
    refine hK.out _ _ (fun _ => HSx) ?_
    clear hK K
    cases z with
    | false =>
      have HP : Hid (LPost w0 b T X w (.returned (.bool false)) w5) := by
        rw [HX.out]
        exact LPost.after (LPost.stop _ hb5 hk5 (hf5 rfl)) HS3.out.2.2
      clear hb5 hk5 ht5 hf5
      refine wpAnyX_one (i := 11) rfl (by kernel_rfl) (fun K hK => ?_)
      go_simp
      refine hK.out _ _ (fun _ => HSx) ?_
      clear hK K
      refine wpAnyX_one (i := 12) rfl (by kernel_rfl) (fun K hK => ?_)
      go_simp
      refine hK.out _ _ (fun _ => HSx) ?_
      clear hK K
      refine wpAnyX_take0 (i := 13) (v := undef) rfl (by kernel_rfl) (by decide) (by kernel_rfl) (by kernel_rfl) (fun _ _ _ h => h) HSx (Or.inr ⟨by rfl, rfl⟩) ?_
      simp only [Act.put]
      refine wpAnyX_one (i := 14) rfl (by kernel_rfl) (fun K hK => ?_)
      go_simp
      refine hK.out _ _ (fun _ => HSx) ?_
      clear hK K
      refine wpAnyX_one (i := 15) rfl (by kernel_rfl) (fun K hK => ?_)
      go_simp
      refine hK.out _ _ (fun _ => HSx) ?_
      clear hK K
      refine wpAnyX_one (i := 16) rfl (by kernel_rfl) (fun K hK => ?_)
      go_simp
      refine hK.out _ _ (fun _ => HSx) ?_
      clear hK K
      refine wpAnyX_one (i := 17) rfl (by kernel_rfl) (fun K hK => ?_)
      go_simp
      refine hK.out _ _ (fun _ => HSx) ?_
      clear hK K
      refine wpAnyX_done (by kernel_rfl) ?_ _
      go_wp2
      go_ret
      exact HP.out
    | true =>
      obtain ⟨hS5, hT5⟩ := ht5 rfl
      have HLz : Hid (Calls Tryd.prog 18 #[.pointer (some ⟨b, 0, none⟩), .slice (some ⟨w5.heap.size, 0, none⟩) 1 1] (w5.alloc (.cells #[.string ⟨#[59, 10]⟩] 9)) (LPost w0 b (T ++ X1 ++ X2) [59, 10] w5)) := lay_one hS5 hT5 ⟨#[59, 10]⟩ (by decide)
      have HK5 : Hid (Keep w3 w5) := hk5
      clear hb5 hk5 ht5 hf5 hS5 hT5 HSy
      refine wpAnyX_one (i := 11) rfl (by kernel_rfl) (fun K hK => ?_)
      go_simp
      refine hK.out _ _ (fun _ => HSx) ?_
      clear hK K
      refine wpAnyX_one (i := 12) rfl (by kernel_rfl) (fun K hK => ?_)
      go_simp
      refine hK.out _ _ (fun _ => HSx) ?_
      clear hK K
      refine wpAnyX_take0 (i := 13) (v := layV b) rfl (by kernel_rfl) (by decide) (by kernel_rfl) (by kernel_rfl) (fun _ _ _ h => h) HSx (Or.inl ⟨by rfl, by (intro W hW; go_simp)⟩) ?_
      simp only [Act.put]
      refine wpAnyX_one (i := 14) rfl (by kernel_rfl) (fun K hK => ?_)
      go_simp
      have HSq := HSx
      have HSx : (fun W : World => W.heap[w.heap.size]? = some (.cells #[.int .i64 i.kind, .string (bs i.name), .slice ka kn kc, .int .i64 i.pl] 37 (0, 0))) (w5.alloc (.cells #[.string ⟨#[59, 10]⟩] 9)) := heap_old HSx
      refine hK.out _ _ (fun _ => HSx) ?_
      clear hK K
      refine wpAnyX_one (i := 15) rfl (by kernel_rfl) (fun K hK => ?_)
      go_simp
      refine HLz.out.mono ?_
      rintro e' w6 ⟨z, rfl, hp⟩
      have HP : Hid (LPost w0 b T X w (.returned (.bool z)) w6) := by
        rw [HX.out]
        exact LPost.after (LPost.after ⟨z, rfl, hp⟩ HK5.out) HS3.out.2.2
      have HSw := (hp.2.1 : Keep _ _)
      have HSx : (fun W : World => W.heap[w.heap.size]? = some (.cells #[.int .i64 i.kind, .string (bs i.name), .slice ka kn kc, .int .i64 i.pl] 37 (0, 0))) w6 := by
        exact HSw.cells HSq (by decide) (by decide)
      clear hp
      refine hK.out _ _ (fun _ => HSx) ?_
      clear hK K
      refine wpAnyX_one (i := 16) rfl (by kernel_rfl) (fun K hK => ?_)
      go_simp
      refine hK.out _ _ (fun _ => HSx) ?_
      clear hK K
      refine wpAnyX_one (i := 17) rfl (by kernel_rfl) (fun K hK => ?_)
      go_simp
      refine hK.out _ _ (fun _ => HSx) ?_
      clear hK K
      refine wpAnyX_done (by kernel_rfl) ?_ _
      go_wp2
      go_ret
      exact HP.out

end Go.Proofs.YtpeldiibjhffiaaDoor
