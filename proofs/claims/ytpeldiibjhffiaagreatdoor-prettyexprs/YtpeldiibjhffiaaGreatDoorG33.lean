/-
  Expressions are laid down: pairs, lists. Expressions are laid down, by kinds. The document's writer: what it has written; lay, kid, digits.
-/
import Derived.Deep.QuietTactic
import Derived.BigQuiet
import Derived.Test.YtpeldiibjhffiaaGreatDoorG31
import Derived.Test.YtpeldiibjhffiaaGreatDoorRgtP
import Derived.Test.YtpeldiibjhffiaaGreatDoorG11
namespace Go.Proofs.YtpeldiibjhffiaaGreatDoor
open Go.RowKit Go.Deep

theorem firm_small (k : Int) : 0 ≤ firmB k ∧ firmB k ≤ 2 := by
  unfold firmB
  split
  · omega
  · split <;> omega
theorem sgn_small (k : Int) : (bs (sgnB k)).size ≤ 100 := by
  unfold sgnB
  split
  · decide
  · split <;> decide
theorem bs_data (l : List UInt8) : (bs l).data.toList = l := bs_list l
theorem five {w0 W : World} {g p : Nat} {h : Hd} {ka : Option Addr} {kn kc : Nat} (hc : CellsAt w0 g p (exCells h ka kn kc)) (hb : Below w0.heap.size w0 W) : W.cell? ⟨g, p, none⟩ = some (.int .i64 h.kind) ∧ W.cell? ⟨g, p + 1, none⟩ = some (.int .i64 h.num) ∧ W.cell? ⟨g, p + 2, none⟩ = some (.string (bs h.text)) ∧ W.cell? ⟨g, p + 3, none⟩ = some (.slice ka kn kc) ∧ W.cell? ⟨g, p + 4, none⟩ = some (.int .i64 h.pl) :=
  ⟨keepc hb (hc 0 _ rfl), keepc hb (hc 1 _ rfl), keepc hb (hc 2 _ rfl), keepc hb (hc 3 _ rfl), keepc hb (hc 4 _ rfl)⟩
set_option maxRecDepth 20000 in
set_option maxHeartbeats 4000000 in
theorem layBoth_calls {w0 : World} {b : Nat} (h : Hd) (g off kn kc : Nat) (e1 e2 : Ex) (k1 k2 : Option Addr) (n1 c1 n2 c2 : Nat) (hkn : 2 ≤ kn) (cs1 : CellsAt w0 g off (exCells e1.1 k1 n1 c1)) (cs2 : CellsAt w0 g (off + 5) (exCells e2.1 k2 n2 c2))
    (H1 : LEx w0 b e1 k1 n1 c1) (H2 : LEx w0 b e2 k2 n2 c2) (T : List UInt8) (w : World) (hS : Sh w0 b T w) (hT : T.length ≤ 4000) :
    Calls Tryz.prog 24 #[.agg #[.int .i64 h.kind, .int .i64 h.num, .string (bs h.text), .slice (some ⟨g, off, none⟩) kn kc, .int .i64 h.pl], layV b] w (LPost w0 b T (brB (firmB h.kind) (e1.1.kind, txE e1) ++ ([32] ++ (sgnB h.kind ++ [32]) ++ brB (firmB h.kind + 1) (e2.1.kind, txE e2))) w) := by
  have hk0 : ¬ kn = 0 := by omega
  have hk1 : 1 < kn := by omega
  have HK1 : Hid (∀ (T : List UInt8) (w : World), Sh w0 b T w → T.length ≤ 4000 → Calls Tryz.prog 22 #[.agg #[.int .i64 e1.1.kind, .int .i64 e1.1.num, .string (bs e1.1.text), .slice k1 n1 c1, .int .i64 e1.1.pl], .int .i64 (firmB h.kind), layV b] w (LPost w0 b T (brB (firmB h.kind) (e1.1.kind, txE e1)) w)) := fun T w h1 h2 => layKid_calls H1 _ T w h1 h2
  have HK2 : Hid (∀ (T : List UInt8) (w : World), Sh w0 b T w → T.length ≤ 4000 → Calls Tryz.prog 22 #[.agg #[.int .i64 e2.1.kind, .int .i64 e2.1.num, .string (bs e2.1.text), .slice k2 n2 c2, .int .i64 e2.1.pl], .int .i64 (firmB h.kind + 1), layV b] w (LPost w0 b T (brB (firmB h.kind + 1) (e2.1.kind, txE e2)) w)) := fun T w h1 h2 => layKid_calls H2 _ T w h1 h2
  have HFm : Hid (∀ w, Calls Tryz.prog 43 #[.int .i64 h.kind] w fun e' w' => e' = .returned (.int .i64 (firmB h.kind)) ∧ w = w') := fun w => firm_calls _ w
  have HBt : Hid (∀ w, Calls Tryz.prog 44 #[.int .i64 h.kind] w fun e' w' => e' = .returned (.string (bs (sgnB h.kind))) ∧ w = w') := fun w => betw_calls _ w
  have HLy : Hid (∀ (T : List UInt8) (W : World), Sh w0 b T W → T.length ≤ 4000 → Calls Tryz.prog 11 #[.pointer (some ⟨b, 0, none⟩), .slice (some ⟨W.heap.size, 0, none⟩) 3 3] (W.alloc (.cells #[.string ⟨#[32]⟩, .string (bs (sgnB h.kind)), .string ⟨#[32]⟩] 9)) (LPost w0 b T ([32] ++ (sgnB h.kind ++ [32])) W)) := fun T W h1 h2 => by
    have := lay_three h1 h2 ⟨#[32]⟩ (bs (sgnB h.kind)) ⟨#[32]⟩ (by decide) (sgn_small _) (by decide)
    rw [bs_data] at this
    exact this
  have hfs := firm_small h.kind
  have HN : Hid (Sh w0 b T (w.alloc (.cells #[.int .i64 h.kind, .int .i64 h.num, .string (bs h.text), .slice (some ⟨g, off, none⟩) kn kc, .int .i64 h.pl] 24)) ∧ Keep w (w.alloc (.cells #[.int .i64 h.kind, .int .i64 h.num, .string (bs h.text), .slice (some ⟨g, off, none⟩) kn kc, .int .i64 h.pl] 24)) ∧ (w.alloc (.cells #[.int .i64 h.kind, .int .i64 h.num, .string (bs h.text), .slice (some ⟨g, off, none⟩) kn kc, .int .i64 h.pl] 24)).heap[w.heap.size]? = some (.cells #[.int .i64 h.kind, .int .i64 h.num, .string (bs h.text), .slice (some ⟨g, off, none⟩) kn kc, .int .i64 h.pl] 24 (0, 0)) ∧ T.length ≤ 4000) := ⟨hS.next (low_alloc _ _), keep_alloc _ _, heap_alloc_new w _, hT⟩
  have HC : Hid (∀ W, Below w0.heap.size w0 W → (W.cell? ⟨g, off, none⟩ = some (.int .i64 e1.1.kind) ∧ W.cell? ⟨g, off + 1, none⟩ = some (.int .i64 e1.1.num) ∧ W.cell? ⟨g, off + 2, none⟩ = some (.string (bs e1.1.text)) ∧ W.cell? ⟨g, off + 3, none⟩ = some (.slice k1 n1 c1) ∧ W.cell? ⟨g, off + 4, none⟩ = some (.int .i64 e1.1.pl)) ∧ (W.cell? ⟨g, off + 5, none⟩ = some (.int .i64 e2.1.kind) ∧ W.cell? ⟨g, off + 5 + 1, none⟩ = some (.int .i64 e2.1.num) ∧ W.cell? ⟨g, off + 5 + 2, none⟩ = some (.string (bs e2.1.text)) ∧ W.cell? ⟨g, off + 5 + 3, none⟩ = some (.slice k2 n2 c2) ∧ W.cell? ⟨g, off + 5 + 4, none⟩ = some (.int .i64 e2.1.pl))) := fun W hW => ⟨five cs1 hW, five cs2 hW⟩
  clear hS hT cs1 cs2 H1 H2
  generalize brB (firmB h.kind) (e1.1.kind, txE e1) = X1 at *
  generalize brB (firmB h.kind + 1) (e2.1.kind, txE e2) = X3 at *
  generalize [32] ++ (sgnB h.kind ++ [32]) = X2 at *
  generalize bs (sgnB h.kind) = sg at *
  generalize firmB h.kind = fk at *
  obtain ⟨⟨y0, y1, y2, y3, y4⟩, -⟩ := HC.out _ HN.out.1.low
  go_enter Tryz.func24, Tryz.ntmps24
  go_wp2_with fail
  refine (HFm.out _).mono ?_
  rintro e' w1 ⟨rfl, rfl⟩
  clear HFm
  go_wp2_with fail
  refine (HK1.out T _ HN.out.1 HN.out.2.2.2).mono ?_
  rintro e' w2 ⟨z, rfl, hb2, hk2, ht2, hf2⟩
  clear y0 y1 y2 y3 y4
  cases z with
  | false =>
    have HP : Hid (LPost w0 b T (X1 ++ (X2 ++ X3)) w (.returned (.bool false)) w2) := LPost.stop _ hb2 (HN.out.2.1.trans hk2) (hf2 rfl)
    clear hb2 hk2 ht2 hf2
    go_wp2
    go_ret
    exact HP.out
  | true =>
    obtain ⟨hS2, hT2⟩ := ht2 rfl
    have hbx := hk2.cells HN.out.2.2.1 (by decide) (by decide)
    have x0 := blk (i := 0) hbx rfl
    have x3 := blk (i := 3) hbx rfl
    have HS2 : Hid (Sh w0 b (T ++ X1) w2 ∧ (T ++ X1).length ≤ 4000 ∧ Keep w w2 ∧ w2.heap[w.heap.size]? = some (.cells #[.int .i64 h.kind, .int .i64 h.num, .string (bs h.text), .slice (some ⟨g, off, none⟩) kn kc, .int .i64 h.pl] 24 (0, 0))) := ⟨hS2, hT2, HN.out.2.1.trans hk2, hbx⟩
    clear hb2 hk2 ht2 hf2 hS2 hT2 hbx
    go_wp2_with fail
    refine (HBt.out _).mono ?_
    rintro e' w3 ⟨rfl, rfl⟩
    clear HBt
    go_wp2_with fail
    refine (HLy.out (T ++ X1) _ HS2.out.1 HS2.out.2.1).mono ?_
    rintro e' w4 ⟨z, rfl, hb4, hk4, ht4, hf4⟩
    clear x0 x3
    cases z with
    | false =>
      have HP : Hid (LPost w0 b T (X1 ++ (X2 ++ X3)) w (.returned (.bool false)) w4) := LPost.after (LPost.stop _ hb4 hk4 (hf4 rfl)) HS2.out.2.2.1
      clear hb4 hk4 ht4 hf4
      go_wp2
      go_ret
      exact HP.out
    | true =>
      obtain ⟨hS4, hT4⟩ := ht4 rfl
      have hbx := hk4.cells HS2.out.2.2.2 (by decide) (by decide)
      have x3 := blk (i := 3) hbx rfl
      obtain ⟨-, y0, y1, y2, y3, y4⟩ := HC.out _ hb4
      have HS4 : Hid (Sh w0 b (T ++ X1 ++ X2) w4 ∧ (T ++ X1 ++ X2).length ≤ 4000 ∧ Keep w2 w4) := ⟨hS4, hT4, hk4⟩
      clear hb4 hk4 ht4 hf4 hS4 hT4 hbx HLy
      go_wp2_with fail
      refine (HK2.out _ _ HS4.out.1 HS4.out.2.1).mono ?_
      rintro e' w5 ⟨z, rfl, hp⟩
      have HP : Hid (LPost w0 b T (X1 ++ (X2 ++ X3)) w (.returned (.bool z)) w5) := LPost.after (LPost.after ⟨z, rfl, hp⟩ HS4.out.2.2) HS2.out.2.2.1
      clear hp x3 y0 y1 y2 y3 y4
      go_wp2
      go_ret
      exact HP.out
set_option maxRecDepth 20000 in
set_option maxHeartbeats 4000000 in
theorem layAll_calls {w0 : World} {b : Nat} {o : Bool} {S : Nat → Prop} (N : Nat) (HX : ∀ (e : Ex) (ka : Option Addr) (kn kc : Nat), ExAt o S w0 e ka kn → szF e.2 < N → ExR e → LEx w0 b e ka kn kc) (sep : ByteArray) (hsep : sep.size ≤ 100) (F : Fo) (ao : Option Addr) (n c : Nat) (hF : FoAt o S w0 F ao n) (hn : n ≤ maxLen) (hN : szF F ≤ N) (hR : hdsR F = true)
    (T : List UInt8) (w : World) (hS : Sh w0 b T w) (hT : T.length ≤ 4000) :
    Calls Tryz.prog 23 #[.slice ao n c, .string sep, layV b] w (LPost w0 b T (allB sep.data.toList true (txF F)) w) := by
  obtain ⟨g, off, hka, hF'⟩ := foAt_addr hF
  unfold maxLen at hn
  have HL : Hid (∀ (e : Ex) (ka : Option Addr) (kn kc : Nat), ExAt o S w0 e ka kn → szF e.2 < N → ExR e → LEx w0 b e ka kn kc) := HX
  have HLy : Hid (∀ (T : List UInt8) (W : World), Sh w0 b T W → T.length ≤ 4000 → Calls Tryz.prog 11 #[.pointer (some ⟨b, 0, none⟩), .slice (some ⟨W.heap.size, 0, none⟩) 1 1] (W.alloc (.cells #[.string sep] 9)) (LPost w0 b T sep.data.toList W)) := fun T W h1 h2 => lay_one h1 h2 sep hsep
  have H0 : Hid (FoAt o S w0 F (some ⟨g, off + 0 * 5, none⟩) (n - 0) ∧ szF F ≤ N ∧ hdsR F = true ∧ T ++ allB sep.data.toList (decide ((0 : Nat) = 0)) (txF F) = T ++ allB sep.data.toList true (txF F)) := ⟨hF', hN, hR, rfl⟩
  have H1 : Hid (Sh w0 b T w ∧ T.length ≤ 4000 ∧ Keep w w) := ⟨hS, hT, Keep.refl _⟩
  generalize allB sep.data.toList true (txF F) = X at *
  clear hF hF' hN hR hS hT hsep HX
  go_enter Tryz.func23, Tryz.ntmps23
  go_wp2_with fail
  go_loopg [11] n (fun k iv wr => ∃ (G : Fo) (i : Nat) (T' : List UInt8), iv = .int .i64 (i : Int) ∧ i + k = n ∧ Hid (FoAt o S w0 G (some ⟨g, off + i * 5, none⟩) (n - i) ∧ szF G ≤ N ∧ hdsR G = true ∧ T' ++ allB sep.data.toList (decide (i = 0)) (txF G) = T ++ X) ∧ Hid (Sh w0 b T' wr ∧ T'.length ≤ 4000 ∧ Keep w wr))
  case atStart => exact ⟨F, 0, T, rfl, by omega, H0.out, H1.out⟩
  case round =>
    clear H0 H1
    obtain ⟨G, i, T', rfl, hik, HG, HT⟩ := hrel
    by_cases hi : i < n
    · have hdi : decide ((i : Int) < (n : Int)) = true := by simp; omega
      obtain ⟨b0, o0, h2, k2, r2, ka2, kc2, kk2, rfl, -, hok, hkc, ⟨c0, c1, c2, c3, c4⟩, hk2, hr2⟩ := foAt_head HG.out.1 hi
      have hka2 := hka (by omega)
      subst hka2
      have hR2 := HG.out.2.2.1
      have hN2 := HG.out.2.1
      simp only [hdsR, Bool.and_eq_true] at hR2
      simp only [szF] at hN2
      have HLE : Hid (LEx w0 b (h2, k2) ka2 kc2 kk2) := HL.out (h2, k2) ka2 kc2 kk2 ⟨hok, hkc, hk2⟩ (by show szF k2 < N; omega) ⟨hR2.1, hR2.2.1⟩
      have HNx : Hid (FoAt o S w0 r2 (some ⟨g, off + (i + 1) * 5, none⟩) (n - (i + 1)) ∧ szF r2 ≤ N ∧ hdsR r2 = true ∧ T' ++ ((if i = 0 then [] else sep.data.toList) ++ (txE (h2, k2) ++ allB sep.data.toList false (txF r2))) = T ++ X) := by
        refine ⟨hr2, by omega, hR2.2.2, ?_⟩
        have := HG.out.2.2.2
        simp only [txF, allB] at this
        rw [← this]
        by_cases h0 : i = 0 <;> simp [h0, txE]
      have x0 := keepc HT.out.1.low c0
      have x1 := keepc HT.out.1.low c1
      have x2 := keepc HT.out.1.low c2
      have x3 := keepc HT.out.1.low c3
      have x4 := keepc HT.out.1.low c4
      have HA : Hid (Sh w0 b T' (wr.alloc (.cells #[.int .i64 h2.kind, .int .i64 h2.num, .string (bs h2.text), .slice ka2 kc2 kk2, .int .i64 h2.pl] 24)) ∧ Keep w (wr.alloc (.cells #[.int .i64 h2.kind, .int .i64 h2.num, .string (bs h2.text), .slice ka2 kc2 kk2, .int .i64 h2.pl] 24)) ∧ (wr.alloc (.cells #[.int .i64 h2.kind, .int .i64 h2.num, .string (bs h2.text), .slice ka2 kc2 kk2, .int .i64 h2.pl] 24)).heap[wr.heap.size]? = some (.cells #[.int .i64 h2.kind, .int .i64 h2.num, .string (bs h2.text), .slice ka2 kc2 kk2, .int .i64 h2.pl] 24 (0, 0)) ∧ T'.length ≤ 4000) := ⟨HT.out.1.next (low_alloc _ _), HT.out.2.2.trans (keep_alloc _ _), heap_alloc_new wr _, HT.out.2.1⟩
      clear HG hok hkc hk2 hr2 hR2 hN2 HT c0 c1 c2 c3 c4
      by_cases h0 : i = 0
      · have hgt : decide ((0 : Int) < (i : Int)) = false := by simp; omega
        have hgn : ¬ 0 < i := by omega
        have HNz : Hid (T' ++ (txE (h2, k2) ++ allB sep.data.toList false (txF r2)) = T ++ X) := by have := HNx.out.2.2.2; rw [if_pos h0] at this; exact this
        clear h0
        go_wp2_with fail
        refine (HLE.out T' _ HA.out.1 HA.out.2.2.2).mono ?_
        rintro e' w3 ⟨z, rfl, hb3, hk3, ht3, hf3⟩
        clear x0 x1 x2 x3 x4
        cases z with
        | false =>
          have HP : Hid (LPost w0 b T X w (.returned (.bool false)) w3) := ⟨false, rfl, hb3, HA.out.2.1.trans hk3, (fun e => by cases e), fun _ => by rw [← HNz.out]; have := hf3 rfl; simp only [List.length_append] at this ⊢; omega⟩
          clear hb3 hk3 ht3 hf3
          go_wp2
          go_ret
          exact HP.out
        | true =>
          obtain ⟨hS3, hT3⟩ := ht3 rfl
          have HT3 : Hid (Sh w0 b (T' ++ txE (h2, k2)) w3 ∧ (T' ++ txE (h2, k2)).length ≤ 4000 ∧ Keep w w3) := ⟨hS3, hT3, HA.out.2.1.trans hk3⟩
          clear hb3 hk3 ht3 hf3 hS3 hT3
          go_wp2_with fail
          go_roundg (gk - 1)
          case measure => omega
          case rel => exact ⟨r2, i + 1, T' ++ txE (h2, k2), by go_num, by omega, ⟨HNx.out.1, HNx.out.2.1, HNx.out.2.2.1, by rw [decide_eq_false (by omega), List.append_assoc]; exact HNz.out⟩, HT3.out⟩
      · have hgt : decide ((0 : Int) < (i : Int)) = true := by simp; omega
        have HNz : Hid (T' ++ (sep.data.toList ++ (txE (h2, k2) ++ allB sep.data.toList false (txF r2))) = T ++ X) := by have := HNx.out.2.2.2; rw [if_neg h0] at this; exact this
        have HLy2 : Hid (Calls Tryz.prog 11 #[.pointer (some ⟨b, 0, none⟩), .slice (some ⟨wr.heap.size + 1, 0, none⟩) 1 1] ((wr.alloc (.cells #[.int .i64 h2.kind, .int .i64 h2.num, .string (bs h2.text), .slice ka2 kc2 kk2, .int .i64 h2.pl] 24)).alloc (.cells #[.string sep] 9)) (LPost w0 b T' sep.data.toList (wr.alloc (.cells #[.int .i64 h2.kind, .int .i64 h2.num, .string (bs h2.text), .slice ka2 kc2 kk2, .int .i64 h2.pl] 24)))) := by
          have := HLy.out T' _ HA.out.1 HA.out.2.2.2
          rw [show (wr.alloc (.cells #[.int .i64 h2.kind, .int .i64 h2.num, .string (bs h2.text), .slice ka2 kc2 kk2, .int .i64 h2.pl] 24)).heap.size = wr.heap.size + 1 by simp] at this
          exact this
        go_wp2_with fail
        refine HLy2.out.mono ?_
        rintro e' w3 ⟨z, rfl, hb3, hk3, ht3, hf3⟩
        clear x0 x1 x2 x3 x4
        cases z with
        | false =>
          have HP : Hid (LPost w0 b T X w (.returned (.bool false)) w3) := ⟨false, rfl, hb3, HA.out.2.1.trans hk3, (fun e => by cases e), fun _ => by rw [← HNz.out]; have := hf3 rfl; simp only [List.length_append] at this ⊢; omega⟩
          clear hb3 hk3 ht3 hf3
          go_wp2
          go_ret
          exact HP.out
        | true =>
          obtain ⟨hS3, hT3⟩ := ht3 rfl
          have hbx := hk3.cells HA.out.2.2.1 (by decide) (by decide)
          have x0 := blk (i := 0) hbx rfl
          have x1 := blk (i := 1) hbx rfl
          have x2 := blk (i := 2) hbx rfl
          have x3 := blk (i := 3) hbx rfl
          have x4 := blk (i := 4) hbx rfl
          have HT3 : Hid (Sh w0 b (T' ++ sep.data.toList) w3 ∧ (T' ++ sep.data.toList).length ≤ 4000 ∧ Keep w w3) := ⟨hS3, hT3, HA.out.2.1.trans hk3⟩
          clear hb3 hk3 ht3 hf3 hS3 hT3 hbx HLy2
          go_wp2_with fail
          refine (HLE.out _ _ HT3.out.1 HT3.out.2.1).mono ?_
          rintro e' w4 ⟨z, rfl, hb4, hk4, ht4, hf4⟩
          clear x0 x1 x2 x3 x4
          cases z with
          | false =>
            have HP : Hid (LPost w0 b T X w (.returned (.bool false)) w4) := ⟨false, rfl, hb4, HT3.out.2.2.trans hk4, (fun e => by cases e), fun _ => by rw [← HNz.out]; have := hf4 rfl; simp only [List.length_append] at this ⊢; omega⟩
            clear hb4 hk4 ht4 hf4
            go_wp2
            go_ret
            exact HP.out
          | true =>
            obtain ⟨hS4, hT4⟩ := ht4 rfl
            have HT4 : Hid (Sh w0 b (T' ++ sep.data.toList ++ txE (h2, k2)) w4 ∧ (T' ++ sep.data.toList ++ txE (h2, k2)).length ≤ 4000 ∧ Keep w w4) := ⟨hS4, hT4, HT3.out.2.2.trans hk4⟩
            clear hb4 hk4 ht4 hf4 hS4 hT4
            go_wp2_with fail
            go_roundg (gk - 1)
            case measure => omega
            case rel => exact ⟨r2, i + 1, T' ++ sep.data.toList ++ txE (h2, k2), by go_num, by omega, ⟨HNx.out.1, HNx.out.2.1, HNx.out.2.2.1, by rw [decide_eq_false (by omega), List.append_assoc, List.append_assoc]; exact HNz.out⟩, HT4.out⟩
    · have hdi : decide ((i : Int) < (n : Int)) = false := by simp; omega
      have HP : Hid (LPost w0 b T X w (.returned (.bool true)) wr) := by
        obtain ⟨h1, _, _, h4⟩ := HG.out
        rw [show n - i = 0 by omega] at h1
        have hG : G = .nil := by
          cases G with
          | nil => rfl
          | node b0 o0 h2 k r => obtain ⟨_, _, _, _, _, m, hm, _⟩ := h1; omega
        subst hG
        simp only [txF, allB, List.append_nil] at h4
        rw [h4] at HT
        exact ⟨true, rfl, HT.out.1.low, HT.out.2.2, fun _ => ⟨HT.out.1, HT.out.2.1⟩, fun e => by cases e⟩
      clear HG HT
      go_wp2
      go_ret
      exact HP.out

end Go.Proofs.YtpeldiibjhffiaaGreatDoor
namespace Go.Proofs.YtpeldiibjhffiaaGreatDoor
open Go.RowKit Go.Deep

/-- The table of powers, which strconv reads, holds what the program lays there. -/
def TabOk (w : World) : Prop := Lib.TabIs Tryz.prog w "internal/strconv.uint64pow10" .u64 Lib.pow10Tab
theorem TabOk.below {w w' : World} (h : TabOk w) (hb : Below w.heap.size w w') : TabOk w' := Lib.tabBelow_of_tabIs h w' hb
theorem dec_small {z : Int} (h0 : 0 ≤ z) (h1 : z ≤ 72057594037927936) : (Lib.decDigits z.toNat).length ≤ 100 := by
  have h2 := Lib.itoa_length_le (z.toNat : Int) (by omega) (by omega)
  rw [Lib.itoa_nonneg] at h2
  omega
theorem tx_small {l : List UInt8} (h : txB l = true) : (bs l).size ≤ 100 := by
  unfold txB at h
  simp only [Bool.and_eq_true, decide_eq_true_eq] at h
  have := h.1
  rw [← size_toList, bs_data]
  omega
theorem name_small {l : List UInt8} (h : nameB l = true) : (bs l).size ≤ 100 := by
  unfold nameB at h
  simp only [Bool.and_eq_true, decide_eq_true_eq] at h
  have := h.2.2.1
  rw [← size_toList, bs_data]
  omega
set_option maxRecDepth 20000 in
set_option maxHeartbeats 4000000 in
theorem lE_num {w0 : World} {b : Nat} (e : Ex) (ka : Option Addr) (kn kc : Nat) (hk : e.1.kind = 1) (h0 : 0 ≤ e.1.num) (h1 : e.1.num ≤ 72057594037927936) (htab : TabOk w0) (T : List UInt8) (w : World) (hS : Sh w0 b T w) (hT : T.length ≤ 4000) :
    Calls Tryz.prog 10 #[.agg #[.int .i64 e.1.kind, .int .i64 e.1.num, .string (bs e.1.text), .slice ka kn kc, .int .i64 e.1.pl], layV b] w (LPost w0 b T (txE e) w) := by
  have HN : Hid (Sh w0 b T (w.alloc (.cells #[.int .i64 e.1.kind, .int .i64 e.1.num, .string (bs e.1.text), .slice ka kn kc, .int .i64 e.1.pl] 24)) ∧ Keep w (w.alloc (.cells #[.int .i64 e.1.kind, .int .i64 e.1.num, .string (bs e.1.text), .slice ka kn kc, .int .i64 e.1.pl] 24)) ∧ (w.alloc (.cells #[.int .i64 e.1.kind, .int .i64 e.1.num, .string (bs e.1.text), .slice ka kn kc, .int .i64 e.1.pl] 24)).heap[w.heap.size]? = some (.cells #[.int .i64 e.1.kind, .int .i64 e.1.num, .string (bs e.1.text), .slice ka kn kc, .int .i64 e.1.pl] 24 (0, 0)) ∧ T.length ≤ 4000) := ⟨hS.next (low_alloc _ _), keep_alloc _ _, heap_alloc_new w _, hT⟩
  have q1 : (e.1.kind == 1) = true := by rw [hk]; rfl
  have HX : Hid (txE e = Lib.decDigits e.1.num.toNat) := by show exB e.1 _ = _; unfold exB; rw [if_pos hk]
  have HI : Hid (∀ W, Below w0.heap.size w0 W → Calls Tryz.prog 21 #[.int .i64 e.1.num] W fun e' w' => e' = .returned (.string ⟨(Lib.decDigits e.1.num.toNat).toArray⟩) ∧ Below W.heap.size W w') := fun W hW => by
    refine (Tryz.strconv_Itoa e.1.num (by omega) (by omega) W (htab.below hW)).mono ?_
    rintro e' w' ⟨rfl, k, os, rfl⟩
    refine ⟨?_, Lib.below_grow _ _ (Nat.le_refl _) _ _⟩
    have hz : ((e.1.num.toNat : Nat) : Int) = e.1.num := by omega
    have h5 := Lib.itoa_nonneg e.1.num.toNat
    rw [hz] at h5
    rw [h5]
  have HSm : Hid ((Lib.decDigits e.1.num.toNat).length ≤ 100) := dec_small h0 h1
  generalize txE e = X at *
  generalize Lib.decDigits e.1.num.toNat = D at *
  clear hS hT hk h0 h1 htab
  go_enter Tryz.func10, Tryz.ntmps10
  go_wp2_with fail
  refine (HI.out _ HN.out.1.low).mono ?_
  rintro e' w2 ⟨rfl, hb2⟩
  have HLy : Hid (Calls Tryz.prog 11 #[.pointer (some ⟨b, 0, none⟩), .slice (some ⟨w2.heap.size, 0, none⟩) 1 1] (w2.alloc (.cells #[.string ⟨D.toArray⟩] 9)) (LPost w0 b T D w2)) := by
    have := lay_one (HN.out.1.next hb2) HN.out.2.2.2 ⟨D.toArray⟩ (by have h5 := HSm.out; show D.toArray.size ≤ 100; simpa using h5)
    exact this
  have HK : Hid (Keep w w2) := HN.out.2.1.trans (Keep.of_below hb2)
  clear hb2 HI
  go_wp2_with fail
  refine HLy.out.mono ?_
  rintro e' w3 ⟨z, rfl, hp⟩
  have HP : Hid (LPost w0 b T X w (.returned (.bool z)) w3) := by
    rw [HX.out]
    exact LPost.from ⟨z, rfl, hp⟩ HK.out
  clear hp HLy
  go_wp2
  go_ret
  exact HP.out
set_option maxRecDepth 20000 in
set_option maxHeartbeats 4000000 in
theorem lE_name {w0 : World} {b : Nat} (e : Ex) (ka : Option Addr) (kn kc : Nat) (hk : e.1.kind = 2) (hs : (bs e.1.text).size ≤ 100) (T : List UInt8) (w : World) (hS : Sh w0 b T w) (hT : T.length ≤ 4000) :
    Calls Tryz.prog 10 #[.agg #[.int .i64 e.1.kind, .int .i64 e.1.num, .string (bs e.1.text), .slice ka kn kc, .int .i64 e.1.pl], layV b] w (LPost w0 b T (txE e) w) := by
  have HN : Hid (Sh w0 b T (w.alloc (.cells #[.int .i64 e.1.kind, .int .i64 e.1.num, .string (bs e.1.text), .slice ka kn kc, .int .i64 e.1.pl] 24)) ∧ Keep w (w.alloc (.cells #[.int .i64 e.1.kind, .int .i64 e.1.num, .string (bs e.1.text), .slice ka kn kc, .int .i64 e.1.pl] 24)) ∧ (w.alloc (.cells #[.int .i64 e.1.kind, .int .i64 e.1.num, .string (bs e.1.text), .slice ka kn kc, .int .i64 e.1.pl] 24)).heap[w.heap.size]? = some (.cells #[.int .i64 e.1.kind, .int .i64 e.1.num, .string (bs e.1.text), .slice ka kn kc, .int .i64 e.1.pl] 24 (0, 0)) ∧ T.length ≤ 4000) := ⟨hS.next (low_alloc _ _), keep_alloc _ _, heap_alloc_new w _, hT⟩
  have q1 : (e.1.kind == 1) = false := by rw [hk]; rfl
  have q2 : (e.1.kind == 2) = true := by rw [hk]; rfl
  have HX : Hid (txE e = e.1.text) := by show exB e.1 _ = _; unfold exB; rw [if_neg (by omega), if_pos hk]
  have HLy : Hid (Calls Tryz.prog 11 #[.pointer (some ⟨b, 0, none⟩), .slice (some ⟨w.heap.size + 1, 0, none⟩) 1 1] ((w.alloc (.cells #[.int .i64 e.1.kind, .int .i64 e.1.num, .string (bs e.1.text), .slice ka kn kc, .int .i64 e.1.pl] 24)).alloc (.cells #[.string (bs e.1.text)] 9)) (LPost w0 b T e.1.text (w.alloc (.cells #[.int .i64 e.1.kind, .int .i64 e.1.num, .string (bs e.1.text), .slice ka kn kc, .int .i64 e.1.pl] 24)))) := by
    have := lay_one HN.out.1 hT (bs e.1.text) hs
    rw [bs_data, show (w.alloc (.cells #[.int .i64 e.1.kind, .int .i64 e.1.num, .string (bs e.1.text), .slice ka kn kc, .int .i64 e.1.pl] 24)).heap.size = w.heap.size + 1 by simp] at this
    exact this
  generalize txE e = X at *
  clear hS hT hk hs
  go_enter Tryz.func10, Tryz.ntmps10
  go_wp2_with fail
  refine HLy.out.mono ?_
  rintro e' w3 ⟨z, rfl, hp⟩
  have HP : Hid (LPost w0 b T X w (.returned (.bool z)) w3) := by
    rw [HX.out]
    exact LPost.from ⟨z, rfl, hp⟩ HN.out.2.1
  clear hp HLy
  go_wp2
  go_ret
  exact HP.out
set_option maxRecDepth 20000 in
set_option maxHeartbeats 4000000 in
theorem lE_text {w0 : World} {b : Nat} (e : Ex) (ka : Option Addr) (kn kc : Nat) (hk : e.1.kind = 3) (hs : (bs e.1.text).size ≤ 100) (T : List UInt8) (w : World) (hS : Sh w0 b T w) (hT : T.length ≤ 4000) :
    Calls Tryz.prog 10 #[.agg #[.int .i64 e.1.kind, .int .i64 e.1.num, .string (bs e.1.text), .slice ka kn kc, .int .i64 e.1.pl], layV b] w (LPost w0 b T (txE e) w) := by
  have HN : Hid (Sh w0 b T (w.alloc (.cells #[.int .i64 e.1.kind, .int .i64 e.1.num, .string (bs e.1.text), .slice ka kn kc, .int .i64 e.1.pl] 24)) ∧ Keep w (w.alloc (.cells #[.int .i64 e.1.kind, .int .i64 e.1.num, .string (bs e.1.text), .slice ka kn kc, .int .i64 e.1.pl] 24)) ∧ (w.alloc (.cells #[.int .i64 e.1.kind, .int .i64 e.1.num, .string (bs e.1.text), .slice ka kn kc, .int .i64 e.1.pl] 24)).heap[w.heap.size]? = some (.cells #[.int .i64 e.1.kind, .int .i64 e.1.num, .string (bs e.1.text), .slice ka kn kc, .int .i64 e.1.pl] 24 (0, 0)) ∧ T.length ≤ 4000) := ⟨hS.next (low_alloc _ _), keep_alloc _ _, heap_alloc_new w _, hT⟩
  have q1 : (e.1.kind == 1) = false := by rw [hk]; rfl
  have q2 : (e.1.kind == 2) = false := by rw [hk]; rfl
  have q3 : (e.1.kind == 3) = true := by rw [hk]; rfl
  have HX : Hid (txE e = [34] ++ (e.1.text ++ [34])) := by show exB e.1 _ = _; unfold exB; rw [if_neg (by omega), if_neg (by omega), if_pos hk]
  have HLy : Hid (Calls Tryz.prog 11 #[.pointer (some ⟨b, 0, none⟩), .slice (some ⟨w.heap.size + 1, 0, none⟩) 3 3] ((w.alloc (.cells #[.int .i64 e.1.kind, .int .i64 e.1.num, .string (bs e.1.text), .slice ka kn kc, .int .i64 e.1.pl] 24)).alloc (.cells #[.string ⟨#[34]⟩, .string (bs e.1.text), .string ⟨#[34]⟩] 9)) (LPost w0 b T ([34] ++ (e.1.text ++ [34])) (w.alloc (.cells #[.int .i64 e.1.kind, .int .i64 e.1.num, .string (bs e.1.text), .slice ka kn kc, .int .i64 e.1.pl] 24)))) := by
    have := lay_three HN.out.1 hT ⟨#[34]⟩ (bs e.1.text) ⟨#[34]⟩ (by decide) hs (by decide)
    rw [bs_data, show (w.alloc (.cells #[.int .i64 e.1.kind, .int .i64 e.1.num, .string (bs e.1.text), .slice ka kn kc, .int .i64 e.1.pl] 24)).heap.size = w.heap.size + 1 by simp] at this
    exact this
  generalize txE e = X at *
  clear hS hT hk hs
  go_enter Tryz.func10, Tryz.ntmps10
  go_wp2_with fail
  refine HLy.out.mono ?_
  rintro e' w3 ⟨z, rfl, hp⟩
  have HP : Hid (LPost w0 b T X w (.returned (.bool z)) w3) := by
    rw [HX.out]
    exact LPost.from ⟨z, rfl, hp⟩ HN.out.2.1
  clear hp HLy
  go_wp2
  go_ret
  exact HP.out
set_option maxRecDepth 20000 in
set_option maxHeartbeats 4000000 in
theorem lE_neg {w0 : World} {b : Nat} (e : Ex) (ka : Option Addr) (kn kc : Nat) (hk : e.1.kind = 4) (g off : Nat) (hka : ka = some ⟨g, off, none⟩) (hkn : 1 ≤ kn) (e1 : Ex) (k1 : Option Addr) (n1 c1 : Nat) (cs1 : CellsAt w0 g off (exCells e1.1 k1 n1 c1)) (H1 : LEx w0 b e1 k1 n1 c1) (hX : txE e = [45] ++ brB 2 (e1.1.kind, txE e1)) (T : List UInt8) (w : World) (hS : Sh w0 b T w) (hT : T.length ≤ 4000) :
    Calls Tryz.prog 10 #[.agg #[.int .i64 e.1.kind, .int .i64 e.1.num, .string (bs e.1.text), .slice ka kn kc, .int .i64 e.1.pl], layV b] w (LPost w0 b T (txE e) w) := by
  have HN : Hid (Sh w0 b T (w.alloc (.cells #[.int .i64 e.1.kind, .int .i64 e.1.num, .string (bs e.1.text), .slice ka kn kc, .int .i64 e.1.pl] 24)) ∧ Keep w (w.alloc (.cells #[.int .i64 e.1.kind, .int .i64 e.1.num, .string (bs e.1.text), .slice ka kn kc, .int .i64 e.1.pl] 24)) ∧ (w.alloc (.cells #[.int .i64 e.1.kind, .int .i64 e.1.num, .string (bs e.1.text), .slice ka kn kc, .int .i64 e.1.pl] 24)).heap[w.heap.size]? = some (.cells #[.int .i64 e.1.kind, .int .i64 e.1.num, .string (bs e.1.text), .slice ka kn kc, .int .i64 e.1.pl] 24 (0, 0)) ∧ T.length ≤ 4000) := ⟨hS.next (low_alloc _ _), keep_alloc _ _, heap_alloc_new w _, hT⟩
  have q1 : (e.1.kind == 1) = false := by rw [hk]; rfl
  have q2 : (e.1.kind == 2) = false := by rw [hk]; rfl
  have q3 : (e.1.kind == 3) = false := by rw [hk]; rfl
  have q4 : (e.1.kind == 4) = true := by rw [hk]; rfl
  have HX : Hid (txE e = [45] ++ brB 2 (e1.1.kind, txE e1)) := hX
  have hk0 : ¬ kn = 0 := by omega
  have HK1 : Hid (∀ (T : List UInt8) (w : World), Sh w0 b T w → T.length ≤ 4000 → Calls Tryz.prog 22 #[.agg #[.int .i64 e1.1.kind, .int .i64 e1.1.num, .string (bs e1.1.text), .slice k1 n1 c1, .int .i64 e1.1.pl], .int .i64 2, layV b] w (LPost w0 b T (brB 2 (e1.1.kind, txE e1)) w)) := fun T w h1 h2 => layKid_calls H1 _ T w h1 h2
  have HC : Hid (∀ W, Below w0.heap.size w0 W → (W.cell? ⟨g, off, none⟩ = some (.int .i64 e1.1.kind) ∧ W.cell? ⟨g, off + 1, none⟩ = some (.int .i64 e1.1.num) ∧ W.cell? ⟨g, off + 2, none⟩ = some (.string (bs e1.1.text)) ∧ W.cell? ⟨g, off + 3, none⟩ = some (.slice k1 n1 c1) ∧ W.cell? ⟨g, off + 4, none⟩ = some (.int .i64 e1.1.pl))) := fun W hW => five cs1 hW
  have HLy : Hid (Calls Tryz.prog 11 #[.pointer (some ⟨b, 0, none⟩), .slice (some ⟨w.heap.size + 1, 0, none⟩) 1 1] ((w.alloc (.cells #[.int .i64 e.1.kind, .int .i64 e.1.num, .string (bs e.1.text), .slice ka kn kc, .int .i64 e.1.pl] 24)).alloc (.cells #[.string ⟨#[45]⟩] 9)) (LPost w0 b T [45] (w.alloc (.cells #[.int .i64 e.1.kind, .int .i64 e.1.num, .string (bs e.1.text), .slice ka kn kc, .int .i64 e.1.pl] 24)))) := by
    have := lay_one HN.out.1 hT ⟨#[45]⟩ (by decide)
    rw [show (w.alloc (.cells #[.int .i64 e.1.kind, .int .i64 e.1.num, .string (bs e.1.text), .slice ka kn kc, .int .i64 e.1.pl] 24)).heap.size = w.heap.size + 1 by simp] at this
    exact this
  subst hka
  generalize brB 2 (e1.1.kind, txE e1) = X1 at *
  generalize txE e = X at *
  clear hS hT hk hX cs1 H1 hkn
  go_enter Tryz.func10, Tryz.ntmps10
  go_wp2_with fail
  refine HLy.out.mono ?_
  rintro e' w3 ⟨z, rfl, hb3, hk3, ht3, hf3⟩
  cases z with
  | false =>
    have HP : Hid (LPost w0 b T X w (.returned (.bool false)) w3) := by
      rw [HX.out]
      exact LPost.stop _ hb3 (HN.out.2.1.trans hk3) (hf3 rfl)
    clear hb3 hk3 ht3 hf3
    go_wp2
    go_ret
    exact HP.out
  | true =>
    obtain ⟨hS3, hT3⟩ := ht3 rfl
    have hbx := hk3.cells HN.out.2.2.1 (by decide) (by decide)
    have x3 := blk (i := 3) hbx rfl
    obtain ⟨y0, y1, y2, y3, y4⟩ := HC.out _ hb3
    have HS3 : Hid (Sh w0 b (T ++ [45]) w3 ∧ (T ++ [45]).length ≤ 4000 ∧ Keep w w3) := ⟨hS3, hT3, HN.out.2.1.trans hk3⟩
    clear hb3 hk3 ht3 hf3 hS3 hT3 hbx HLy
    go_wp2_with fail
    refine (HK1.out _ _ HS3.out.1 HS3.out.2.1).mono ?_
    rintro e' w4 ⟨z, rfl, hp⟩
    have HP : Hid (LPost w0 b T X w (.returned (.bool z)) w4) := by
      rw [HX.out]
      exact LPost.after ⟨z, rfl, hp⟩ HS3.out.2.2
    clear hp x3 y0 y1 y2 y3 y4
    go_wp2
    go_ret
    exact HP.out
set_option maxRecDepth 20000 in
set_option maxHeartbeats 4000000 in
theorem lE_min {w0 : World} {b : Nat} (e : Ex) (ka : Option Addr) (kn kc : Nat) (hk : e.1.kind = 8) (HA : ∀ (T : List UInt8) (w : World), Sh w0 b T w → T.length ≤ 4000 → Calls Tryz.prog 23 #[.slice ka kn kc, .string ⟨#[44, 32]⟩, layV b] w (LPost w0 b T (allB [44, 32] true (txF e.2)) w)) (T : List UInt8) (w : World) (hS : Sh w0 b T w) (hT : T.length ≤ 4000) :
    Calls Tryz.prog 10 #[.agg #[.int .i64 e.1.kind, .int .i64 e.1.num, .string (bs e.1.text), .slice ka kn kc, .int .i64 e.1.pl], layV b] w (LPost w0 b T (txE e) w) := by
  have HN : Hid (Sh w0 b T (w.alloc (.cells #[.int .i64 e.1.kind, .int .i64 e.1.num, .string (bs e.1.text), .slice ka kn kc, .int .i64 e.1.pl] 24)) ∧ Keep w (w.alloc (.cells #[.int .i64 e.1.kind, .int .i64 e.1.num, .string (bs e.1.text), .slice ka kn kc, .int .i64 e.1.pl] 24)) ∧ (w.alloc (.cells #[.int .i64 e.1.kind, .int .i64 e.1.num, .string (bs e.1.text), .slice ka kn kc, .int .i64 e.1.pl] 24)).heap[w.heap.size]? = some (.cells #[.int .i64 e.1.kind, .int .i64 e.1.num, .string (bs e.1.text), .slice ka kn kc, .int .i64 e.1.pl] 24 (0, 0)) ∧ T.length ≤ 4000) := ⟨hS.next (low_alloc _ _), keep_alloc _ _, heap_alloc_new w _, hT⟩
  have q1 : (e.1.kind == 1) = false := by rw [hk]; rfl
  have q2 : (e.1.kind == 2) = false := by rw [hk]; rfl
  have q3 : (e.1.kind == 3) = false := by rw [hk]; rfl
  have q4 : (e.1.kind == 4) = false := by rw [hk]; rfl
  have q8 : (e.1.kind == 8) = true := by rw [hk]; rfl
  have HX : Hid (txE e = [109, 105, 110, 40] ++ (allB [44, 32] true (txF e.2) ++ [41])) := by show exB e.1 _ = _; unfold exB; rw [if_neg (by omega), if_neg (by omega), if_neg (by omega), if_neg (by omega), if_pos hk]
  have HAl : Hid (∀ (T : List UInt8) (w : World), Sh w0 b T w → T.length ≤ 4000 → Calls Tryz.prog 23 #[.slice ka kn kc, .string ⟨#[44, 32]⟩, layV b] w (LPost w0 b T (allB [44, 32] true (txF e.2)) w)) := HA
  have HLy : Hid (Calls Tryz.prog 11 #[.pointer (some ⟨b, 0, none⟩), .slice (some ⟨w.heap.size + 1, 0, none⟩) 1 1] ((w.alloc (.cells #[.int .i64 e.1.kind, .int .i64 e.1.num, .string (bs e.1.text), .slice ka kn kc, .int .i64 e.1.pl] 24)).alloc (.cells #[.string ⟨#[109, 105, 110, 40]⟩] 9)) (LPost w0 b T [109, 105, 110, 40] (w.alloc (.cells #[.int .i64 e.1.kind, .int .i64 e.1.num, .string (bs e.1.text), .slice ka kn kc, .int .i64 e.1.pl] 24)))) := by
    have := lay_one HN.out.1 hT ⟨#[109, 105, 110, 40]⟩ (by decide)
    rw [show (w.alloc (.cells #[.int .i64 e.1.kind, .int .i64 e.1.num, .string (bs e.1.text), .slice ka kn kc, .int .i64 e.1.pl] 24)).heap.size = w.heap.size + 1 by simp] at this
    exact this
  generalize allB [44, 32] true (txF e.2) = X1 at *
  generalize txE e = X at *
  clear hS hT hk HA
  go_enter Tryz.func10, Tryz.ntmps10
  go_wp2_with fail
  refine HLy.out.mono ?_
  rintro e' w3 ⟨z, rfl, hb3, hk3, ht3, hf3⟩
  cases z with
  | false =>
    have HP : Hid (LPost w0 b T X w (.returned (.bool false)) w3) := by
      rw [HX.out]
      exact LPost.stop _ hb3 (HN.out.2.1.trans hk3) (hf3 rfl)
    clear hb3 hk3 ht3 hf3
    go_wp2
    go_ret
    exact HP.out
  | true =>
    obtain ⟨hS3, hT3⟩ := ht3 rfl
    have hbx := hk3.cells HN.out.2.2.1 (by decide) (by decide)
    have x3 := blk (i := 3) hbx rfl
    have HS3 : Hid (Sh w0 b (T ++ [109, 105, 110, 40]) w3 ∧ (T ++ [109, 105, 110, 40]).length ≤ 4000 ∧ Keep w w3) := ⟨hS3, hT3, HN.out.2.1.trans hk3⟩
    clear hb3 hk3 ht3 hf3 hS3 hT3 hbx HLy
    go_wp2_with fail
    refine (HAl.out _ _ HS3.out.1 HS3.out.2.1).mono ?_
    rintro e' w4 ⟨z, rfl, hb4, hk4, ht4, hf4⟩
    clear x3
    cases z with
    | false =>
      have HP : Hid (LPost w0 b T X w (.returned (.bool false)) w4) := by
        rw [HX.out]
        exact LPost.after (LPost.stop _ hb4 hk4 (hf4 rfl)) HS3.out.2.2
      clear hb4 hk4 ht4 hf4
      go_wp2
      go_ret
      exact HP.out
    | true =>
      obtain ⟨hS4, hT4⟩ := ht4 rfl
      have HLz : Hid (Calls Tryz.prog 11 #[.pointer (some ⟨b, 0, none⟩), .slice (some ⟨w4.heap.size, 0, none⟩) 1 1] (w4.alloc (.cells #[.string ⟨#[41]⟩] 9)) (LPost w0 b (T ++ [109, 105, 110, 40] ++ X1) [41] w4)) := lay_one hS4 hT4 ⟨#[41]⟩ (by decide)
      have HK4 : Hid (Keep w3 w4) := hk4
      clear hb4 hk4 ht4 hf4 hS4 hT4
      go_wp2_with fail
      refine HLz.out.mono ?_
      rintro e' w5 ⟨z, rfl, hp⟩
      have HP : Hid (LPost w0 b T X w (.returned (.bool z)) w5) := by
        rw [HX.out]
        exact LPost.after (LPost.after ⟨z, rfl, hp⟩ HK4.out) HS3.out.2.2
      clear hp HLz
      go_wp2
      go_ret
      exact HP.out
set_option maxRecDepth 20000 in
set_option maxHeartbeats 4000000 in
theorem lE_max {w0 : World} {b : Nat} (e : Ex) (ka : Option Addr) (kn kc : Nat) (hk : e.1.kind = 9) (HA : ∀ (T : List UInt8) (w : World), Sh w0 b T w → T.length ≤ 4000 → Calls Tryz.prog 23 #[.slice ka kn kc, .string ⟨#[44, 32]⟩, layV b] w (LPost w0 b T (allB [44, 32] true (txF e.2)) w)) (T : List UInt8) (w : World) (hS : Sh w0 b T w) (hT : T.length ≤ 4000) :
    Calls Tryz.prog 10 #[.agg #[.int .i64 e.1.kind, .int .i64 e.1.num, .string (bs e.1.text), .slice ka kn kc, .int .i64 e.1.pl], layV b] w (LPost w0 b T (txE e) w) := by
  have HN : Hid (Sh w0 b T (w.alloc (.cells #[.int .i64 e.1.kind, .int .i64 e.1.num, .string (bs e.1.text), .slice ka kn kc, .int .i64 e.1.pl] 24)) ∧ Keep w (w.alloc (.cells #[.int .i64 e.1.kind, .int .i64 e.1.num, .string (bs e.1.text), .slice ka kn kc, .int .i64 e.1.pl] 24)) ∧ (w.alloc (.cells #[.int .i64 e.1.kind, .int .i64 e.1.num, .string (bs e.1.text), .slice ka kn kc, .int .i64 e.1.pl] 24)).heap[w.heap.size]? = some (.cells #[.int .i64 e.1.kind, .int .i64 e.1.num, .string (bs e.1.text), .slice ka kn kc, .int .i64 e.1.pl] 24 (0, 0)) ∧ T.length ≤ 4000) := ⟨hS.next (low_alloc _ _), keep_alloc _ _, heap_alloc_new w _, hT⟩
  have q1 : (e.1.kind == 1) = false := by rw [hk]; rfl
  have q2 : (e.1.kind == 2) = false := by rw [hk]; rfl
  have q3 : (e.1.kind == 3) = false := by rw [hk]; rfl
  have q4 : (e.1.kind == 4) = false := by rw [hk]; rfl
  have q8 : (e.1.kind == 8) = false := by rw [hk]; rfl
  have q9 : (e.1.kind == 9) = true := by rw [hk]; rfl
  have HX : Hid (txE e = [109, 97, 120, 40] ++ (allB [44, 32] true (txF e.2) ++ [41])) := by show exB e.1 _ = _; unfold exB; rw [if_neg (by omega), if_neg (by omega), if_neg (by omega), if_neg (by omega), if_neg (by omega), if_pos hk]
  have HAl : Hid (∀ (T : List UInt8) (w : World), Sh w0 b T w → T.length ≤ 4000 → Calls Tryz.prog 23 #[.slice ka kn kc, .string ⟨#[44, 32]⟩, layV b] w (LPost w0 b T (allB [44, 32] true (txF e.2)) w)) := HA
  have HLy : Hid (Calls Tryz.prog 11 #[.pointer (some ⟨b, 0, none⟩), .slice (some ⟨w.heap.size + 1, 0, none⟩) 1 1] ((w.alloc (.cells #[.int .i64 e.1.kind, .int .i64 e.1.num, .string (bs e.1.text), .slice ka kn kc, .int .i64 e.1.pl] 24)).alloc (.cells #[.string ⟨#[109, 97, 120, 40]⟩] 9)) (LPost w0 b T [109, 97, 120, 40] (w.alloc (.cells #[.int .i64 e.1.kind, .int .i64 e.1.num, .string (bs e.1.text), .slice ka kn kc, .int .i64 e.1.pl] 24)))) := by
    have := lay_one HN.out.1 hT ⟨#[109, 97, 120, 40]⟩ (by decide)
    rw [show (w.alloc (.cells #[.int .i64 e.1.kind, .int .i64 e.1.num, .string (bs e.1.text), .slice ka kn kc, .int .i64 e.1.pl] 24)).heap.size = w.heap.size + 1 by simp] at this
    exact this
  generalize allB [44, 32] true (txF e.2) = X1 at *
  generalize txE e = X at *
  clear hS hT hk HA
  go_enter Tryz.func10, Tryz.ntmps10
  go_wp2_with fail
  refine HLy.out.mono ?_
  rintro e' w3 ⟨z, rfl, hb3, hk3, ht3, hf3⟩
  cases z with
  | false =>
    have HP : Hid (LPost w0 b T X w (.returned (.bool false)) w3) := by
      rw [HX.out]
      exact LPost.stop _ hb3 (HN.out.2.1.trans hk3) (hf3 rfl)
    clear hb3 hk3 ht3 hf3
    go_wp2
    go_ret
    exact HP.out
  | true =>
    obtain ⟨hS3, hT3⟩ := ht3 rfl
    have hbx := hk3.cells HN.out.2.2.1 (by decide) (by decide)
    have x3 := blk (i := 3) hbx rfl
    have HS3 : Hid (Sh w0 b (T ++ [109, 97, 120, 40]) w3 ∧ (T ++ [109, 97, 120, 40]).length ≤ 4000 ∧ Keep w w3) := ⟨hS3, hT3, HN.out.2.1.trans hk3⟩
    clear hb3 hk3 ht3 hf3 hS3 hT3 hbx HLy
    go_wp2_with fail
    refine (HAl.out _ _ HS3.out.1 HS3.out.2.1).mono ?_
    rintro e' w4 ⟨z, rfl, hb4, hk4, ht4, hf4⟩
    clear x3
    cases z with
    | false =>
      have HP : Hid (LPost w0 b T X w (.returned (.bool false)) w4) := by
        rw [HX.out]
        exact LPost.after (LPost.stop _ hb4 hk4 (hf4 rfl)) HS3.out.2.2
      clear hb4 hk4 ht4 hf4
      go_wp2
      go_ret
      exact HP.out
    | true =>
      obtain ⟨hS4, hT4⟩ := ht4 rfl
      have HLz : Hid (Calls Tryz.prog 11 #[.pointer (some ⟨b, 0, none⟩), .slice (some ⟨w4.heap.size, 0, none⟩) 1 1] (w4.alloc (.cells #[.string ⟨#[41]⟩] 9)) (LPost w0 b (T ++ [109, 97, 120, 40] ++ X1) [41] w4)) := lay_one hS4 hT4 ⟨#[41]⟩ (by decide)
      have HK4 : Hid (Keep w3 w4) := hk4
      clear hb4 hk4 ht4 hf4 hS4 hT4
      go_wp2_with fail
      refine HLz.out.mono ?_
      rintro e' w5 ⟨z, rfl, hp⟩
      have HP : Hid (LPost w0 b T X w (.returned (.bool z)) w5) := by
        rw [HX.out]
        exact LPost.after (LPost.after ⟨z, rfl, hp⟩ HK4.out) HS3.out.2.2
      clear hp HLz
      go_wp2
      go_ret
      exact HP.out
set_option maxRecDepth 20000 in
set_option maxHeartbeats 4000000 in
theorem lE_two {w0 : World} {b : Nat} (e : Ex) (ka : Option Addr) (kn kc : Nat) (hk : e.1.kind = 5 ∨ e.1.kind = 6 ∨ e.1.kind = 7) (T : List UInt8) (HB : ∀ (w : World), Sh w0 b T w → Calls Tryz.prog 24 #[.agg #[.int .i64 e.1.kind, .int .i64 e.1.num, .string (bs e.1.text), .slice ka kn kc, .int .i64 e.1.pl], layV b] w (LPost w0 b T (txE e) w)) (w : World) (hS : Sh w0 b T w) (hT : T.length ≤ 4000) :
    Calls Tryz.prog 10 #[.agg #[.int .i64 e.1.kind, .int .i64 e.1.num, .string (bs e.1.text), .slice ka kn kc, .int .i64 e.1.pl], layV b] w (LPost w0 b T (txE e) w) := by
  have HN : Hid (Sh w0 b T (w.alloc (.cells #[.int .i64 e.1.kind, .int .i64 e.1.num, .string (bs e.1.text), .slice ka kn kc, .int .i64 e.1.pl] 24)) ∧ Keep w (w.alloc (.cells #[.int .i64 e.1.kind, .int .i64 e.1.num, .string (bs e.1.text), .slice ka kn kc, .int .i64 e.1.pl] 24)) ∧ (w.alloc (.cells #[.int .i64 e.1.kind, .int .i64 e.1.num, .string (bs e.1.text), .slice ka kn kc, .int .i64 e.1.pl] 24)).heap[w.heap.size]? = some (.cells #[.int .i64 e.1.kind, .int .i64 e.1.num, .string (bs e.1.text), .slice ka kn kc, .int .i64 e.1.pl] 24 (0, 0)) ∧ T.length ≤ 4000) := ⟨hS.next (low_alloc _ _), keep_alloc _ _, heap_alloc_new w _, hT⟩
  have q1 : (e.1.kind == 1) = false := by rw [beq_eq_false_iff_ne]; omega
  have q2 : (e.1.kind == 2) = false := by rw [beq_eq_false_iff_ne]; omega
  have q3 : (e.1.kind == 3) = false := by rw [beq_eq_false_iff_ne]; omega
  have q4 : (e.1.kind == 4) = false := by rw [beq_eq_false_iff_ne]; omega
  have q8 : (e.1.kind == 8) = false := by rw [beq_eq_false_iff_ne]; omega
  have q9 : (e.1.kind == 9) = false := by rw [beq_eq_false_iff_ne]; omega
  have HBo : Hid (Calls Tryz.prog 24 #[.agg #[.int .i64 e.1.kind, .int .i64 e.1.num, .string (bs e.1.text), .slice ka kn kc, .int .i64 e.1.pl], layV b] (w.alloc (.cells #[.int .i64 e.1.kind, .int .i64 e.1.num, .string (bs e.1.text), .slice ka kn kc, .int .i64 e.1.pl] 24)) (LPost w0 b T (txE e) (w.alloc (.cells #[.int .i64 e.1.kind, .int .i64 e.1.num, .string (bs e.1.text), .slice ka kn kc, .int .i64 e.1.pl] 24)))) := HB _ HN.out.1
  generalize txE e = X at *
  clear hS hT hk HB
  go_enter Tryz.func10, Tryz.ntmps10
  go_wp2_with fail
  refine HBo.out.mono ?_
  rintro e' w3 ⟨z, rfl, hp⟩
  have HP : Hid (LPost w0 b T X w (.returned (.bool z)) w3) := LPost.from ⟨z, rfl, hp⟩ HN.out.2.1
  clear hp HBo
  go_wp2
  go_ret
  exact HP.out
/-- An expression is laid down. -/
theorem layExpr_calls {w0 : World} {b : Nat} {o : Bool} {S : Nat → Prop} (htab : TabOk w0) : ∀ (N : Nat) (e : Ex) (ka : Option Addr) (kn kc : Nat), ExAt o S w0 e ka kn → szF e.2 < N → ExR e → LEx w0 b e ka kn kc
  | 0, _, _, _, _, _, h, _ => by omega
  | N + 1, e, ka, kn, kc, hE, hN, hR => by
    have IH := layExpr_calls (b := b) (o := o) (S := S) htab N
    intro T w hS hT
    obtain ⟨hh, hk⟩ := hR
    have hlen := foAt_len hE.kids
    unfold hdRight at hh
    split at hh
    · rename_i h1
      simp only [Bool.and_eq_true, decide_eq_true_eq] at hh
      exact lE_num e ka kn kc h1 hh.1 hh.2.1 htab T w hS hT
    split at hh
    · rename_i _ h2
      simp only [Bool.and_eq_true, decide_eq_true_eq] at hh
      exact lE_name e ka kn kc h2 (name_small hh.2.1) T w hS hT
    split at hh
    · rename_i _ _ h3
      simp only [Bool.and_eq_true, decide_eq_true_eq] at hh
      exact lE_text e ka kn kc h3 (tx_small hh.2.1) T w hS hT
    split at hh
    · rename_i n1 n2 n3 h4
      simp only [Bool.and_eq_true, decide_eq_true_eq] at hh
      obtain ⟨h, F⟩ := e
      cases F with
      | nil => have := hh.2.2; simp [lenF] at this
      | node b0 o0 h1 k1 r1 =>
        obtain ⟨g, off, k2, n2', c2, m, hm, ha, _, _, hok, hkn, hc, hkk, _⟩ := hE.kids
        simp only [hdsR, Bool.and_eq_true] at hk
        simp only [szF] at hN
        refine lE_neg (h, .node b0 o0 h1 k1 r1) ka kn kc h4 g off ha (by omega) (h1, k1) k2 n2' c2 hc (IH (h1, k1) k2 n2' c2 ⟨hok, hkn, hkk⟩ (by show szF k1 < N; omega) ⟨hk.1, hk.2.1⟩) ?_ T w hS hT
        show exB h _ = _
        unfold exB
        rw [if_neg n1, if_neg n2, if_neg n3, if_pos h4]
        simp [kt, txF, txE]
    split at hh
    · rename_i n1 n2 n3 n4 h5
      have h5' : e.1.kind = 5 ∨ e.1.kind = 6 ∨ e.1.kind = 7 := h5
      simp only [Bool.and_eq_true, decide_eq_true_eq] at hh
      refine lE_two e ka kn kc h5' T (fun w' hS' => ?_) w hS hT
      obtain ⟨h, F⟩ := e
      cases F with
      | nil => have := hh.2.2; simp [lenF] at this
      | node b0 o0 h1 k1 r1 =>
        cases r1 with
        | nil => have := hh.2.2; simp [lenF] at this
        | node b1 o1 h2 k2 r2 =>
          obtain ⟨g, off, ka1, kn1, kc1, m, hm, ha, _, _, hok, hkn, hc, hkk, hrr⟩ := hE.kids
          obtain ⟨g', off', ka2, kn2, kc2, m2, hm2, ha2, _, _, hok2, hkn2, hc2, hkk2, _⟩ := hrr
          cases ha2
          subst ha
          simp only [hdsR, Bool.and_eq_true] at hk
          simp only [szF] at hN
          have hb := layBoth_calls (w0 := w0) (b := b) h g off kn kc (h1, k1) (h2, k2) ka1 ka2 kn1 kc1 kn2 kc2 (by omega) hc hc2 (IH (h1, k1) ka1 kn1 kc1 ⟨hok, hkn, hkk⟩ (by show szF k1 < N; omega) ⟨hk.1, hk.2.1⟩) (IH (h2, k2) ka2 kn2 kc2 ⟨hok2, hkn2, hkk2⟩ (by show szF k2 < N; omega) ⟨hk.2.2.1, hk.2.2.2.1⟩) T w' hS' hT
          have hX : txE (h, .node b0 o0 h1 k1 (.node b1 o1 h2 k2 r2)) = brB (firmB h.kind) (h1.kind, txE (h1, k1)) ++ ([32] ++ (sgnB h.kind ++ [32]) ++ brB (firmB h.kind + 1) (h2.kind, txE (h2, k2))) := by
            have h5'' : h.kind = 5 ∨ h.kind = 6 ∨ h.kind = 7 := h5'
            show exB h _ = _
            unfold exB
            rw [if_neg n1, if_neg n2, if_neg n3, if_neg n4, if_neg (by omega), if_neg (by omega)]
            simp [kt, txF, txE]
          rw [hX]
          exact hb
    split at hh
    · rename_i n1 n2 n3 n4 n5 h8
      have h8' : e.1.kind = 8 ∨ e.1.kind = 9 := h8
      have HA : ∀ (T : List UInt8) (w : World), Sh w0 b T w → T.length ≤ 4000 → Calls Tryz.prog 23 #[.slice ka kn kc, .string ⟨#[44, 32]⟩, layV b] w (LPost w0 b T (allB [44, 32] true (txF e.2)) w) := fun T w h1 h2 => layAll_calls N (fun e ka kn kc a1 a2 a3 => IH e ka kn kc a1 a2 a3) ⟨#[44, 32]⟩ (by decide) e.2 ka kn kc hE.kids hE.few (by omega) hk T w h1 h2
      rcases h8' with h8 | h9
      · exact lE_min e ka kn kc h8 HA T w hS hT
      · exact lE_max e ka kn kc h9 HA T w hS hT
    · cases hh

end Go.Proofs.YtpeldiibjhffiaaGreatDoor
namespace Go.Proofs.YtpeldiibjhffiaaGreatDoor
open Go.RowKit Go.Deep

/-- Blocks that hold neither bytes nor a writer stay as they are. -/
def Kw (w w' : World) : Prop := ∀ (g : Nat) (cs : Array Value) (t : TypeId) (f : Nat × Nat), (t ≠ 5 ∧ t ≠ 53) → w.heap[g]? = some (.cells cs t f) → w'.heap[g]? = some (.cells cs t f)
theorem Kw.refl (w : World) : Kw w w := fun _ _ _ _ _ h => h
theorem Kw.trans {a b c : World} (h : Kw a b) (k : Kw b c) : Kw a c := fun g cs t f ht hg => k g cs t f ht (h g cs t f ht hg)
theorem Kw.of_below {w w' : World} (h : Below w.heap.size w w') : Kw w w' := fun g _ _ _ _ hg => by rw [h.block g (lt_block hg)]; exact hg
theorem Kw.cells {w w' : World} (h : Kw w w') {g : Nat} {cs : Array Value} {t : TypeId} {f : Nat × Nat} (hg : w.heap[g]? = some (.cells cs t f)) (h1 : t ≠ 5) (h2 : t ≠ 53) : w'.heap[g]? = some (.cells cs t f) := h g cs t f ⟨h1, h2⟩ hg
/-- What was written, against what was to be written: the same, or both too long. -/
def WT (T T' : List UInt8) : Prop := (T.length ≤ 4000 → T' = T) ∧ (4000 < T.length → 4000 < T'.length)
/-- The writer in memory. -/
def WAt (w0 : World) (b : Nat) (T : List UInt8) (w : World) : Prop :=
  ∃ (T' : List UInt8) (ao : Option Addr) (cap : Nat), w.heap[b]? = some (.cells #[.slice ao T'.length cap] 53 (0, 0)) ∧ w.ownsRow w0.heap.size 5 1 (.slice ao T'.length cap) T'.length (bV T') ∧ WT T T' ∧ T'.length ≤ 4200 ∧ w0.heap.size ≤ b ∧ Below w0.heap.size w0 w
theorem WAt.low {w0 : World} {b : Nat} {T : List UInt8} {w : World} (h : WAt w0 b T w) : Below w0.heap.size w0 w := by
  obtain ⟨_, _, _, _, _, _, _, _, h1⟩ := h
  exact h1
theorem WAt.next {w0 : World} {b : Nat} {T : List UInt8} {w w' : World} (h : WAt w0 b T w) (hb : Below w.heap.size w w') : WAt w0 b T w' := by
  obtain ⟨T', ao, cap, h1, h2, h3, h4, h5, h6⟩ := h
  exact ⟨T', ao, cap, by rw [hb.block b (lt_block h1)]; exact h1, owned_of_block h2 fun g _ _ hc => hb.block g (lt_block hc), h3, h4, h5, h6.trans (hb.mono h6.size)⟩
/-- What writing a text leaves. -/
def WPost (w0 : World) (b : Nat) (T X : List UInt8) (w : World) (e : Ending) (w' : World) : Prop := e = .returned (.tuple #[]) ∧ WAt w0 b (T ++ X) w' ∧ Kw w w'
theorem kw_alloc (w : World) (o : Obj) : Kw w (w.alloc o) := Kw.of_below (low_alloc w o)
set_option maxRecDepth 20000 in
set_option maxHeartbeats 2000000 in
theorem wlay_calls (w0 : World) (b : Nat) (T : List UInt8) (s : ByteArray) (hs : s.size ≤ 100) (w : World) (h : WAt w0 b T w) :
    Calls Tryz.prog 29 #[.pointer (some ⟨b, 0, none⟩), .string s] w (WPost w0 b T s.data.toList w) := by
  obtain ⟨i0, hi, hz0, hz1, hz2⟩ := info_parts info5
  obtain ⟨T', ao, cap, hbk, hown, hwt, hsm, hbb, hlow⟩ := h
  have hc := blk (i := 0) hbk rfl
  by_cases h4 : T'.length ≤ 4000
  · have hd4 : decide ((T'.length : Int) ≤ 4000) = true := by simp only [decide_eq_true_eq]; omega
    have HO : Hid (w.ownsRow w0.heap.size 5 1 (.slice ao T'.length cap) T'.length (bV T')) := hown
    have HK : Hid (w.heap[b]? = some (.cells #[.slice ao T'.length cap] 53 (0, 0)) ∧ w0.heap.size ≤ b ∧ Below w0.heap.size w0 w) := ⟨hbk, hbb, hlow⟩
    have hBw : w0.heap.size ≤ w.heap.size := hlow.size
    have HW : Hid (WT (T ++ s.data.toList) (T' ++ s.data.toList) ∧ (T' ++ s.data.toList).length = T'.length + s.size) := by
      refine ⟨⟨fun h1 => ?_, fun h1 => ?_⟩, by rw [List.length_append, size_toList]⟩
      · rw [hwt.1 (by simp only [List.length_append] at h1; omega)]
      · by_cases h2 : T.length ≤ 4000
        · rw [hwt.1 h2]; exact h1
        · have := hwt.2 (by omega); omega
    generalize hn : T'.length = n at *
    have HN : Hid (T'.length = n) := hn
    clear hn hown hbk hlow hwt hbb
    go_enter Tryz.func29, Tryz.ntmps29
    go_wp2_with (at_builtin; go_loud (refine Lib.wpList_append_own_string _ rfl _ _ 42 9 rfl w0.heap.size 5 i0 Tryz.underlying42 Tryz.underlying9 hi hz0 hz1 hz2 _ _ _ rfl HO.out s rfl ?c1 ?c2 ?c3 ?_))
    case c1 => unfold maxLen; omega
    case c2 => omega
    case c3 => omega
    intro v' w2 hown' hgrow _
    obtain ⟨ao2, cap2, rfl⟩ := owned_shape hown'
    have hne : some b ≠ (Value.slice ao n cap).ownBlock := by
      intro e'
      rcases HO.out.2 with ⟨hv, _⟩ | ⟨g', cap', cur', hv, _, hg', _⟩
      · rw [hv] at e'; cases e'
      · rw [hv] at e'; simp [Value.ownBlock] at e'; subst e'; have := HK.out.1; rw [hg'] at this; cases this
    have hbk2 : w2.heap[b]? = some (.cells #[.slice ao n cap] 53 (0, 0)) := by
      rw [hgrow.block b (lt_block HK.out.1) hne]; exact HK.out.1
    have hc2 := blk (i := 0) hbk2 rfl
    have hf2 := blkf 0 hbk2
    have HZ : Hid (WPost w0 b T s.data.toList w (.returned (.tuple #[])) (w2.setCell ⟨b, 0, none⟩ (.slice ao2 (n + s.size) cap2))) := by
      refine ⟨rfl, ⟨T' ++ s.data.toList, ao2, cap2, ?_, ?_, HW.out.1, ?_, HK.out.2.1, ?_⟩, ?_⟩
      · rw [HW.out.2]; exact heap_put hbk2 rfl
      · rw [HW.out.2, bV_append]
        exact owned_of_block hown' fun g _ _ hx => heap_other rfl (fun e => by rw [e, hbk2] at hx; cases hx)
      · rw [HW.out.2]; omega
      · have h5 : Below w0.heap.size w w2 := Below.grown (Below.refl _ _) hgrow hBw (fun k hk => (HO.out.lt k hk).1)
        exact (HK.out.2.2.trans h5).setCell (p := ⟨b, 0, none⟩) HK.out.2.1 _
      · intro g cs t f ht hg
        have h6 : w2.heap[g]? = some (.cells cs t f) := by
          rw [hgrow.block g (lt_block hg) (fun e' => by
            rcases HO.out.2 with ⟨hv, _⟩ | ⟨g', cap', cur', hv, _, hg', _⟩
            · rw [hv] at e'; cases e'
            · rw [hv] at e'; simp [Value.ownBlock] at e'; subst e'; rw [hg'] at hg; cases hg; exact ht.1 rfl)]
          exact hg
        rw [heap_other h6 (fun e => by rw [e, hbk2] at h6; cases h6; exact ht.2 rfl)]
    clear hown' hgrow hbk2 HO HK HW hne
    go_wp2
    go_end0
    exact HZ.out
  · have hd4 : decide ((T'.length : Int) ≤ 4000) = false := by simp only [decide_eq_false_iff_not]; omega
    have HZ : Hid (WPost w0 b T s.data.toList w (.returned (.tuple #[])) w) := by
      refine ⟨rfl, ⟨T', ao, cap, hbk, hown, ⟨fun h1 => ?_, fun _ => by omega⟩, hsm, hbb, hlow⟩, Kw.refl _⟩
      exfalso
      have h2 : T.length ≤ 4000 := by simp only [List.length_append] at h1; omega
      rw [hwt.1 h2] at h4
      exact h4 h2
    generalize T'.length = n at *
    clear hown hbk hlow hwt hbb hsm h4
    go_enter Tryz.func29, Tryz.ntmps29
    go_wp2
    go_end0
    exact HZ.out
theorem WPost.after {w0 : World} {b : Nat} {T X Y : List UInt8} {w w2 : World} {e : Ending} {w' : World} (h : WPost w0 b (T ++ X) Y w2 e w') (hk : Kw w w2) : WPost w0 b T (X ++ Y) w e w' := by
  obtain ⟨h1, h2, h3⟩ := h
  rw [List.append_assoc] at h2
  exact ⟨h1, h2, hk.trans h3⟩
theorem WPost.from {w0 : World} {b : Nat} {T X : List UInt8} {w w2 : World} {e : Ending} {w' : World} (h : WPost w0 b T X w2 e w') (hk : Kw w w2) : WPost w0 b T X w e w' := ⟨h.1, h.2.1, hk.trans h.2.2⟩
def sumB (k : Int) : Bool := decide (k = 5) || decide (k = 6)
def brW (br : Bool) (x : List UInt8) : List UInt8 := if br then [40] ++ (x ++ [41]) else x
set_option maxHeartbeats 1000000 in
theorem sum_calls (h : Hd) (ka : Option Addr) (kn kc : Nat) (w : World) : Calls Tryz.prog 50 #[.agg #[.int .i64 h.kind, .int .i64 h.num, .string (bs h.text), .slice ka kn kc, .int .i64 h.pl]] w fun e w' => e = .returned (.bool (sumB h.kind)) ∧ Below w.heap.size w w' := by
  have HB : Hid (Below w.heap.size w (w.alloc (.cells #[.int .i64 h.kind, .int .i64 h.num, .string (bs h.text), .slice ka kn kc, .int .i64 h.pl] 24))) := low_alloc _ _
  have HE : Hid (sumB h.kind = (decide (h.kind = 5) || decide (h.kind = 6))) := rfl
  generalize sumB h.kind = R at *
  by_cases h5 : h.kind = 5
  · have q5 : (h.kind == 5) = true := by rw [h5]; rfl
    have HR : Hid (R = true) := by have := HE.out; rw [h5] at this; exact this
    clear HE h5
    go_enter Tryz.func50, Tryz.ntmps50
    go_wp2
    go_ret
    exact ⟨ret_bool HR.out.symm, HB.out⟩
  · have q5 : (h.kind == 5) = false := by rw [beq_eq_false_iff_ne]; exact h5
    have HR : Hid (R = (h.kind == 6)) := by
      have := HE.out
      rw [decide_eq_false h5, Bool.false_or] at this
      rw [this]
      show decide (h.kind = 6) = (h.kind == 6)
      rw [Bool.eq_iff_iff]; simp
    generalize hq : (h.kind == 6) = q6 at *
    clear HE h5
    go_enter Tryz.func50, Tryz.ntmps50
    go_wp2
    go_ret
    exact ⟨ret_bool HR.out.symm, HB.out⟩
set_option maxHeartbeats 1000000 in
theorem product_calls (h : Hd) (ka : Option Addr) (kn kc : Nat) (w : World) : Calls Tryz.prog 51 #[.agg #[.int .i64 h.kind, .int .i64 h.num, .string (bs h.text), .slice ka kn kc, .int .i64 h.pl]] w fun e w' => e = .returned (.bool (decide (h.kind = 7))) ∧ Below w.heap.size w w' := by
  have HB : Hid (Below w.heap.size w (w.alloc (.cells #[.int .i64 h.kind, .int .i64 h.num, .string (bs h.text), .slice ka kn kc, .int .i64 h.pl] 24))) := low_alloc _ _
  have HR : Hid (decide (h.kind = 7) = (h.kind == 7)) := by show _ = _; rw [Bool.eq_iff_iff]; simp
  generalize decide (h.kind = 7) = R at *
  generalize hq : (h.kind == 7) = q6 at *
  go_enter Tryz.func51, Tryz.ntmps51
  go_wp2
  go_ret
  exact ⟨ret_bool HR.out.symm, HB.out⟩
/-- An expression is written by the document's writer. -/
def WEx (w0 : World) (b : Nat) (e : Ex) (ka : Option Addr) (kn kc : Nat) : Prop := ∀ T w, WAt w0 b T w → Calls Tryz.prog 30 #[.pointer (some ⟨b, 0, none⟩), .agg #[.int .i64 e.1.kind, .int .i64 e.1.num, .string (bs e.1.text), .slice ka kn kc, .int .i64 e.1.pl]] w (WPost w0 b T (txE e) w)
set_option maxRecDepth 20000 in
set_option maxHeartbeats 2000000 in
theorem wkid_calls {w0 : World} {b : Nat} {e : Ex} {ka : Option Addr} {kn kc : Nat} (HX : WEx w0 b e ka kn kc) (br : Bool) (T : List UInt8) (w : World) (h : WAt w0 b T w) :
    Calls Tryz.prog 14 #[.pointer (some ⟨b, 0, none⟩), .agg #[.int .i64 e.1.kind, .int .i64 e.1.num, .string (bs e.1.text), .slice ka kn kc, .int .i64 e.1.pl], .bool br] w (WPost w0 b T (brW br (txE e)) w) := by
  have hS1 := h.next (low_alloc w (.cells #[.int .i64 e.1.kind, .int .i64 e.1.num, .string (bs e.1.text), .slice ka kn kc, .int .i64 e.1.pl] 24))
  have H1 : Hid (WAt w0 b T (w.alloc (.cells #[.int .i64 e.1.kind, .int .i64 e.1.num, .string (bs e.1.text), .slice ka kn kc, .int .i64 e.1.pl] 24)) ∧ Kw w (w.alloc (.cells #[.int .i64 e.1.kind, .int .i64 e.1.num, .string (bs e.1.text), .slice ka kn kc, .int .i64 e.1.pl] 24)) ∧ (w.alloc (.cells #[.int .i64 e.1.kind, .int .i64 e.1.num, .string (bs e.1.text), .slice ka kn kc, .int .i64 e.1.pl] 24)).heap[w.heap.size]? = some (.cells #[.int .i64 e.1.kind, .int .i64 e.1.num, .string (bs e.1.text), .slice ka kn kc, .int .i64 e.1.pl] 24 (0, 0))) := ⟨hS1, kw_alloc _ _, heap_alloc_new w _⟩
  have HL : Hid (WEx w0 b e ka kn kc) := HX
  have HLy : Hid (∀ (T : List UInt8) (s : ByteArray) (w : World), s.size ≤ 100 → WAt w0 b T w → Calls Tryz.prog 29 #[.pointer (some ⟨b, 0, none⟩), .string s] w (WPost w0 b T s.data.toList w)) := fun T s w h1 h2 => wlay_calls w0 b T s h1 w h2
  obtain ⟨T', ao, cap, hbk, hown, hwt, hsm, hbb, hlow⟩ := hS1
  have hc := blk (i := 0) hbk rfl
  by_cases h4 : 4000 < T'.length
  · have hd4 : decide ((4000 : Int) < (T'.length : Int)) = true := by simp only [decide_eq_true_eq]; omega
    have HP : Hid (WPost w0 b T (brW br (txE e)) w (.returned (.tuple #[])) (w.alloc (.cells #[.int .i64 e.1.kind, .int .i64 e.1.num, .string (bs e.1.text), .slice ka kn kc, .int .i64 e.1.pl] 24))) := by
      refine ⟨rfl, ⟨T', ao, cap, hbk, hown, ⟨fun h1 => ?_, fun _ => h4⟩, hsm, hbb, hlow⟩, H1.out.2.1⟩
      exfalso
      have h2 : T.length ≤ 4000 := by simp only [List.length_append] at h1; omega
      rw [hwt.1 h2] at h4
      omega
    generalize T'.length = n at *
    clear h HX hbk hown hwt hsm hbb hlow h4
    go_enter Tryz.func14, Tryz.ntmps14
    go_wp2
    go_end0
    exact HP.out
  · have hd4 : decide ((4000 : Int) < (T'.length : Int)) = false := by simp only [decide_eq_false_iff_not]; omega
    generalize T'.length = n at *
    clear h HX hbk hown hwt hsm hbb hlow h4
    cases br with
    | false =>
      go_enter Tryz.func14, Tryz.ntmps14
      go_wp2_with fail
      refine (HL.out T _ H1.out.1).mono ?_
      rintro e' w2 ⟨rfl, hp⟩
      have HP : Hid (WPost w0 b T (brW false (txE e)) w (.returned (.tuple #[])) w2) := WPost.from ⟨rfl, hp⟩ H1.out.2.1
      clear hp
      go_wp2
      go_end0
      exact HP.out
    | true =>
      go_enter Tryz.func14, Tryz.ntmps14
      go_wp2_with fail
      refine (HLy.out T ⟨#[40]⟩ _ (by decide) H1.out.1).mono ?_
      rintro e' w2 ⟨rfl, hS2, hk2⟩
      have hbx := hk2.cells H1.out.2.2 (by decide) (by decide)
      have x0 := blk (i := 0) hbx rfl
      have x1 := blk (i := 1) hbx rfl
      have x2 := blk (i := 2) hbx rfl
      have x3 := blk (i := 3) hbx rfl
      have x4 := blk (i := 4) hbx rfl
      have H2 : Hid (WAt w0 b (T ++ [40]) w2 ∧ Kw w w2) := ⟨hS2, H1.out.2.1.trans hk2⟩
      clear hS2 hk2 hbx hc
      go_wp2_with fail
      refine (HL.out _ _ H2.out.1).mono ?_
      rintro e' w3 ⟨rfl, hS3, hk3⟩
      have H3 : Hid (WAt w0 b (T ++ [40] ++ txE e) w3 ∧ Kw w2 w3) := ⟨hS3, hk3⟩
      clear hS3 hk3 x0 x1 x2 x3 x4
      go_wp2_with fail
      refine (HLy.out _ ⟨#[41]⟩ _ (by decide) H3.out.1).mono ?_
      rintro e' w4 ⟨rfl, hp⟩
      have HP : Hid (WPost w0 b T (brW true (txE e)) w (.returned (.tuple #[])) w4) := WPost.after (WPost.after ⟨rfl, hp⟩ H3.out.2) H2.out.2
      clear hp
      go_wp2
      go_end0
      exact HP.out
def digS (d : Nat) : ByteArray := ⟨#[UInt8.ofNat (48 + d)]⟩
theorem digS_cut : ∀ d, d < 10 → (⟨#[48, 49, 50, 51, 52, 53, 54, 55, 56, 57]⟩ : ByteArray).extract d (d + 1) = digS d
  | 0, _ | 1, _ | 2, _ | 3, _ | 4, _ | 5, _ | 6, _ | 7, _ | 8, _ | 9, _ => rfl
  | d + 10, h => absurd h (by omega)
theorem run_dig (n : Nat) (W : World) : (Instr.slice 9 (.string ⟨#[48, 49, 50, 51, 52, 53, 54, 55, 56, 57]⟩) (some (.int .i64 ((n : Int) % 10))) (some (.int .i64 ((n : Int) % 10 + 1))) none).run Tryz.prog W = .ok (.string (digS (n % 10))) W := by
  have hs : (⟨#[48, 49, 50, 51, 52, 53, 54, 55, 56, 57]⟩ : ByteArray).size = 10 := rfl
  rw [run_slice_string W 9 _ .i64 .i64 _ _ Tryz.underlying9 (by omega) (by omega) (by rw [hs]; omega)]
  have e1 : ((n : Int) % 10).toNat = n % 10 := by omega
  have e2 : ((n : Int) % 10 + 1).toNat = n % 10 + 1 := by omega
  rw [e1, e2, digS_cut _ (Nat.mod_lt _ (by decide))]
theorem run_dig1 (n : Nat) (hn : n < 10) (W : World) : (Instr.slice 9 (.string ⟨#[48, 49, 50, 51, 52, 53, 54, 55, 56, 57]⟩) (some (.int .i64 (n : Int))) (some (.int .i64 ((n : Int) + 1))) none).run Tryz.prog W = .ok (.string (digS n)) W := by
  have hs : (⟨#[48, 49, 50, 51, 52, 53, 54, 55, 56, 57]⟩ : ByteArray).size = 10 := rfl
  rw [run_slice_string W 9 _ .i64 .i64 _ _ Tryz.underlying9 (by omega) (by omega) (by rw [hs]; omega)]
  have e1 : ((n : Int)).toNat = n := by omega
  have e2 : ((n : Int) + 1).toNat = n + 1 := by omega
  rw [e1, e2, digS_cut _ hn]
theorem dec_step {n : Nat} (h : ¬ n < 10) : Lib.decDigits n = Lib.decDigits (n / 10) ++ [UInt8.ofNat (48 + n % 10)] := by
  rw [Lib.decDigits, dif_neg h]
theorem ba_append (a b : ByteArray) : (a ++ b).data.toList = a.data.toList ++ b.data.toList := by simp
theorem bs_app (a b : List UInt8) : bs (a ++ b) = bs a ++ bs b := by
  apply ByteArray.ext
  simp [bs]
set_option maxRecDepth 20000 in
set_option maxHeartbeats 2000000 in
theorem wdigits_calls : ∀ (F N : Nat) (w : World), N < F → N ≤ 72057594037927936 → Calls Tryz.prog 49 #[.int .i64 (N : Int)] w fun e w' => e = .returned (.string (bs (Lib.decDigits N))) ∧ ∃ m, w' = w.drewN m
  | 0, _, _, h, _ => by omega
  | F + 1, N, w, hF, hN => by
    by_cases h10 : N < 10
    · have hd : decide ((N : Int) < 10) = true := by simp; omega
      have hcut := run_dig1 N h10
      have HD : Hid (digS N = bs (Lib.decDigits N)) := by show _ = _; rw [Lib.decDigits, dif_pos h10]; rfl
      generalize digS N = t at *
      generalize bs (Lib.decDigits N) = D at *
      clear h10 hF
      go_enter Tryz.func49, Tryz.ntmps49
      go_wp2
      go_ret
      exact ⟨congrArg (fun x => Ending.returned (.string x)) HD.out, 0, rfl⟩
    · have hd : decide ((N : Int) < 10) = false := by simp; omega
      have hcut := run_dig N
      have HI : Hid (∀ W, Calls Tryz.prog 49 #[.int .i64 ((N : Int) / 10)] W fun e w' => e = .returned (.string (bs (Lib.decDigits (N / 10)))) ∧ ∃ m, w' = W.drewN m) := fun W => by
        have := wdigits_calls F (N / 10) W (by omega) (by omega)
        rw [show (((N / 10 : Nat)) : Int) = (N : Int) / 10 by omega] at this
        exact this
      have HD : Hid (bs (Lib.decDigits N) = bs (Lib.decDigits (N / 10)) ++ digS (N % 10)) := by show _ = _; rw [dec_step h10, bs_app]; rfl
      have hsz : (digS (N % 10)).size = 1 := rfl
      have hlen : (bs (Lib.decDigits (N / 10))).size ≤ 22 := by
        have := Lib.itoa_length_le ((N / 10 : Nat) : Int) (by omega) (by omega)
        rw [Lib.itoa_nonneg] at this
        rw [← size_toList, bs_data]; omega
      have hcat : ∀ W, (Op.stringOp .add (bs (Lib.decDigits (N / 10))) (digS (N % 10))).run Tryz.prog W = .ok (.string (bs (Lib.decDigits (N / 10)) ++ digS (N % 10))) W := fun W => run_string_add_sum W _ _ (by rw [hsz]; omega)
      generalize digS (N % 10) = t1 at *
      generalize bs (Lib.decDigits N) = D at *
      generalize bs (Lib.decDigits (N / 10)) = D1 at *
      clear h10 hF hsz hlen
      go_enter Tryz.func49, Tryz.ntmps49
      go_wp2_with fail
      go_quiet ((go_at_call 49; exact Calls.quiet_of (HI.out _)))
      go_wp2
      go_ret
      exact ⟨congrArg (fun x => Ending.returned (.string x)) HD.out.symm, _, rfl⟩

end Go.Proofs.YtpeldiibjhffiaaGreatDoor
