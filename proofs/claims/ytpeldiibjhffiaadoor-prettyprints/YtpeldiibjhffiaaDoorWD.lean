/-
  The document's writer: item, Print.
-/
import Derived.Deep.DeepCutAuto
import Derived.Test.YtpeldiibjhffiaaDoorG35
import Derived.Test.YtpeldiibjhffiaaDoorLayF
import Derived.Test.YtpeldiibjhffiaaDoorRRg
namespace Go.Proofs.YtpeldiibjhffiaaDoor
open Go.RowKit Go.Deep

def headsB : List (List UInt8) := [[], [108, 101, 116, 32], [97, 108, 112, 104, 97, 98, 101, 116, 32], [109, 97, 116, 99, 104, 32], [109, 105, 115, 109, 97, 116, 99, 104, 32], [112, 97, 105, 114, 32], [103, 97, 112, 32], [109, 111, 100, 101, 32], [98, 97, 110, 100, 32], [99, 108, 105, 112, 32], [108, 101, 97, 115, 116, 32]]
def headVals : Array Value := (headsB.map fun l => Value.string (bs l)).toArray
def headW (k : Int) : List UInt8 := headsB.getD k.toNat []
theorem it_kind {i : It} (h : itRight i = true) : 1 ≤ i.kind ∧ i.kind ≤ 10 := by
  unfold itRight at h
  split at h
  · omega
  split at h
  · omega
  split at h
  · omega
  split at h
  · omega
  · cases h
theorem headW_small {k : Int} (h : 1 ≤ k ∧ k ≤ 10) : (bs (headW k)).size ≤ 100 := by
  have : k = 1 ∨ k = 2 ∨ k = 3 ∨ k = 4 ∨ k = 5 ∨ k = 6 ∨ k = 7 ∨ k = 8 ∨ k = 9 ∨ k = 10 := by omega
  rcases this with rfl | rfl | rfl | rfl | rfl | rfl | rfl | rfl | rfl | rfl <;> decide
theorem head_is {i : It} (h : itRight i = true) : headI i = headW i.kind ++ (i.name ++ (if i.kind = 1 then [32, 61, 32] else [])) := by
  have hk := it_kind h
  unfold itRight at h
  unfold headI
  by_cases h1 : i.kind = 1
  · rw [if_pos h1, if_pos h1, h1]; rfl
  rw [if_neg h1] at h
  rw [if_neg h1, if_neg h1, List.append_nil]
  by_cases h7 : i.kind = 7
  · rw [if_pos h7, h7]; rfl
  rw [if_neg h7] at h
  rw [if_neg h7]
  have hn : i.name = [] := by
    split at h
    · simp only [Bool.and_eq_true, decide_eq_true_eq] at h; exact h.1
    · split at h
      · simp only [Bool.and_eq_true, decide_eq_true_eq] at h; exact h.1
      · cases h
  rw [hn, List.append_nil]
  have : i.kind = 2 ∨ i.kind = 3 ∨ i.kind = 4 ∨ i.kind = 5 ∨ i.kind = 6 ∨ i.kind = 8 ∨ i.kind = 9 ∨ i.kind = 10 := by omega
  rcases this with e | e | e | e | e | e | e | e <;> rw [e] <;> rfl
theorem head_cell (W : World) (b : Nat) (f : Nat × Nat) (h : W.heap[b]? = some (.cells headVals 9 f)) (k : Nat) (hk : k < 11) : W.cell? ⟨b, k, none⟩ = some (.string (bs (headsB.getD k []))) := by
  have hl : headsB.length = 11 := rfl
  rw [cell_of_row W b k _ 9 f h]
  simp [headVals, hl, hk]
set_option maxRecDepth 20000 in
set_option maxHeartbeats 8000000 in
theorem witem_let {w0 : World} {b : Nat} {o : Bool} {S : Nat → Prop} (kd : Nat) (nm : List UInt8) (args : Fo) (pl : Int) (ka : Option Addr) (kn kc : Nat) (hF : FoAt o S w0 args ka kn) (hn : kn ≤ maxLen) (hRt : itRight ⟨(kd : Int), nm, args, pl⟩ = true) (hcls : kd = 1) (T : List UInt8) (w : World) (hS : WAt w0 b T w) :
    Calls Tryd.prog 21 #[.pointer (some ⟨b, 0, none⟩), .agg #[.int .i64 (kd : Int), .string (bs nm), .slice ka kn kc, .int .i64 pl]] w (WPost w0 b T (itB ⟨(kd : Int), nm, args, pl⟩) w) := by
  obtain ⟨hnm, hhd, hdp⟩ := it_facts hRt
  obtain ⟨hk1, hk10⟩ := it_kind hRt
  have hk1' : 1 ≤ kd := by have h9 : (1 : Int) ≤ (kd : Int) := hk1; omega
  have hk10' : kd < 11 := by have h9 : (kd : Int) ≤ 10 := hk10; omega
  have q1 : ((kd : Int) == 1) = true := by rw [beq_iff_eq]; omega
  have q8 : ((kd : Int) == 8) = false := by rw [beq_eq_false_iff_ne]; omega
  have HX : Hid (itB ⟨(kd : Int), nm, args, pl⟩ = headW (kd : Int) ++ (nm ++ ([32, 61, 32] ++ (allB [44, 32] true (txF args) ++ [59, 10])))) := by
    show itB ⟨(kd : Int), nm, args, pl⟩ = _
    unfold itB
    rw [head_is hRt]
    show headW (kd : Int) ++ (nm ++ (if (kd : Int) = 1 then [32, 61, 32] else [])) ++ (allB (signI (kd : Int)) true (txF args) ++ [59, 10]) = _
    rw [if_pos (by omega), show signI (kd : Int) = [44, 32] from (by unfold signI; exact if_neg (by omega))]
    simp only [List.append_assoc]
  obtain ⟨g, off, hka, hF'⟩ := foAt_addr hF
  unfold maxLen at hn
  have HK : Hid (∀ (e : Ex) (ka : Option Addr) (kn kc : Nat), ExAt o S w0 e ka kn → ExR e → ∀ (T : List UInt8) (w : World), WAt w0 b T w → Calls Tryd.prog 36 #[.pointer (some ⟨b, 0, none⟩), .agg #[.int .i64 e.1.kind, .int .i64 e.1.num, .string (bs e.1.text), .slice ka kn kc, .int .i64 e.1.pl], .bool false] w (WPost w0 b T (txE e) w)) := fun e ka kn kc h1 h3 T w h4 => wkid_calls (wexpr_calls _ e ka kn kc h1 (Nat.lt_succ_self _) h3) false T w h4
  have HLa : Hid (∀ (T : List UInt8) (w : World), WAt w0 b T w → Calls Tryd.prog 35 #[.pointer (some ⟨b, 0, none⟩), .string (bs (headsB.getD kd []))] w (WPost w0 b T (headW (kd : Int)) w)) := fun T w h => by
    have := wlay_any (w0 := w0) (b := b) (bs (headW (kd : Int))) (headW_small ⟨hk1, hk10⟩) T w h
    rw [bs_data] at this; exact this
  have HLb : Hid (∀ (T : List UInt8) (w : World), WAt w0 b T w → Calls Tryd.prog 35 #[.pointer (some ⟨b, 0, none⟩), .string (bs nm)] w (WPost w0 b T nm w)) := fun T w h => by
    have := wlay_any (w0 := w0) (b := b) (bs nm) hnm T w h
    rw [bs_data] at this; exact this
  have HLc : Hid (∀ (T : List UInt8) (w : World), WAt w0 b T w → Calls Tryd.prog 35 #[.pointer (some ⟨b, 0, none⟩), .string ⟨#[32, 61, 32]⟩] w (WPost w0 b T [32, 61, 32] w)) := wlay_any ⟨#[32, 61, 32]⟩ (by decide)
  have HLe : Hid (∀ (T : List UInt8) (w : World), WAt w0 b T w → Calls Tryd.prog 35 #[.pointer (some ⟨b, 0, none⟩), .string ⟨#[44, 32]⟩] w (WPost w0 b T [44, 32] w)) := wlay_any ⟨#[44, 32]⟩ (by decide)
  have HLf : Hid (∀ (T : List UInt8) (w : World), WAt w0 b T w → Calls Tryd.prog 35 #[.pointer (some ⟨b, 0, none⟩), .string ⟨#[59, 10]⟩] w (WPost w0 b T [59, 10] w)) := wlay_any ⟨#[59, 10]⟩ (by decide)
  have HA : Hid (∀ cs, cs = headVals → ((w.alloc (.cells #[.int .i64 (kd : Int), .string (bs nm), .slice ka kn kc, .int .i64 pl] 37)).alloc (.cells cs 9 (0, 0))).heap[w.heap.size + 1]? = some (.cells headVals 9 (0, 0)) ∧ ((w.alloc (.cells #[.int .i64 (kd : Int), .string (bs nm), .slice ka kn kc, .int .i64 pl] 37)).alloc (.cells cs 9 (0, 0))).heap[w.heap.size]? = some (.cells #[.int .i64 (kd : Int), .string (bs nm), .slice ka kn kc, .int .i64 pl] 37 (0, 0)) ∧ WAt w0 b T ((w.alloc (.cells #[.int .i64 (kd : Int), .string (bs nm), .slice ka kn kc, .int .i64 pl] 37)).alloc (.cells cs 9 (0, 0))) ∧ Kw w ((w.alloc (.cells #[.int .i64 (kd : Int), .string (bs nm), .slice ka kn kc, .int .i64 pl] 37)).alloc (.cells cs 9 (0, 0)))) := fun cs h => by
    subst h
    have hb2 : Below w.heap.size w ((w.alloc (.cells #[.int .i64 (kd : Int), .string (bs nm), .slice ka kn kc, .int .i64 pl] 37)).alloc (.cells headVals 9 (0, 0))) := below_two w _ _
    exact ⟨twoN_new w _ _, heap_old (heap_alloc_new w _), hS.next hb2, Kw.of_below hb2⟩
  have HF0 : Hid (FoAt o S w0 args (some ⟨g, off + 0 * 5, none⟩) (kn - 0) ∧ hdsR args = true) := ⟨hF', hhd⟩
  have HCl : Hid (∀ W : World, W.heap[w.heap.size + 1]? = some (.cells headVals 9 (0, 0)) → W.cell? ⟨w.heap.size + 1, kd, none⟩ = some (.string (bs (headsB.getD kd [])))) := fun W h => head_cell _ _ _ h kd hk10'
  generalize headsB.getD kd [] = HD at *
  have HXA' : ∀ Z : List UInt8, Z ++ allB [44, 32] (decide ((0 : Nat) = 0)) (txF args) = Z ++ allB [44, 32] true (txF args) := fun _ => rfl
  generalize hXA0 : allB [44, 32] true (txF args) = XA at *
  have HXA0 : Hid (∀ Z : List UInt8, Z ++ allB [44, 32] (decide ((0 : Nat) = 0)) (txF args) = Z ++ XA) := HXA'
  clear HXA' hXA0
  generalize itB ⟨(kd : Int), nm, args, pl⟩ = X at *
  generalize headW (kd : Int) = XH at *
  clear hS hF hF' hhd hdp hnm hRt hk1 hk10 hcls
  go_enter Tryd.func21, Tryd.ntmps21
  go_upto_region 2 with (fail)
  generalize hW : World.alloc (World.alloc w _) _ = W at *
  have H1 : Hid (W.heap[w.heap.size]? = some (.cells #[.int .i64 (kd : Int), .string (bs nm), .slice ka kn kc, .int .i64 pl] 37 (0, 0)) ∧ WAt w0 b T W ∧ Kw w W) := by
    rw [← hW]; exact (HA.out _ rfl).2
  have hcell : W.cell? ⟨w.heap.size + 1, kd, none⟩ = some (.string (bs HD)) := HCl.out W (by rw [← hW]; exact (HA.out _ rfl).1)
  clear hW HA HCl
  have x0 := blk (i := 0) H1.out.1 rfl
  go_wp2_with fail
  refine (HLa.out T _ H1.out.2.1).mono ?_
  rintro e' w2 ⟨rfl, hS2, hk2⟩
  have H2 : Hid (WAt w0 b (T ++ XH) w2 ∧ Kw w w2 ∧ w2.heap[w.heap.size]? = some (.cells #[.int .i64 (kd : Int), .string (bs nm), .slice ka kn kc, .int .i64 pl] 37 (0, 0))) := ⟨hS2, H1.out.2.2.trans hk2, hk2.cells H1.out.1 (by decide) (by decide)⟩
  clear hS2 hk2 H1 HLa hcell x0
  have x1 := blk (i := 1) H2.out.2.2 rfl
  go_wp2_with fail
  refine (HLb.out _ _ H2.out.1).mono ?_
  rintro e' w3 ⟨rfl, hS3, hk3⟩
  have H3 : Hid (WAt w0 b (T ++ XH ++ nm) w3 ∧ Kw w w3 ∧ w3.heap[w.heap.size]? = some (.cells #[.int .i64 (kd : Int), .string (bs nm), .slice ka kn kc, .int .i64 pl] 37 (0, 0))) := ⟨hS3, H2.out.2.1.trans hk3, hk3.cells H2.out.2.2 (by decide) (by decide)⟩
  clear hS3 hk3 H2 HLb x1
  have x0 := blk (i := 0) H3.out.2.2 rfl
  go_wp2_with fail
  refine (HLc.out _ _ H3.out.1).mono ?_
  rintro e' W4 ⟨rfl, hS4, hk4⟩
  have H4 : Hid (WAt w0 b (T ++ XH ++ nm ++ [32, 61, 32]) W4 ∧ Kw w W4 ∧ W4.heap[w.heap.size]? = some (.cells #[.int .i64 (kd : Int), .string (bs nm), .slice ka kn kc, .int .i64 pl] 37 (0, 0))) := ⟨hS4, H3.out.2.1.trans hk4, hk4.cells H3.out.2.2 (by decide) (by decide)⟩
  clear hS4 hk4 H3 x0
  obtain ⟨T4, hT4⟩ : ∃ T4, T4 = T ++ XH ++ nm ++ [32, 61, 32] := ⟨_, rfl⟩
  have H4' : Hid (WAt w0 b T4 W4 ∧ Kw w W4 ∧ W4.heap[w.heap.size]? = some (.cells #[.int .i64 (kd : Int), .string (bs nm), .slice ka kn kc, .int .i64 pl] 37 (0, 0))) := by rw [hT4]; exact H4.out
  have HX4 : Hid (T4 ++ (XA ++ [59, 10]) = T ++ X) := by show _ = _; rw [hT4, HX.out]; simp only [List.append_assoc]
  have HI0 : Hid (T4 ++ allB [44, 32] (decide ((0 : Nat) = 0)) (txF args) = T4 ++ XA) := HXA0.out T4
  clear hT4 H4 HX HXA0
  go_wp2_with fail
  go_loopg [5] kn (fun k iv wr => ∃ (G : Fo) (i : Nat) (T' : List UInt8), iv = .int .i64 (i : Int) ∧ i + k = kn ∧ Hid (FoAt o S w0 G (some ⟨g, off + i * 5, none⟩) (kn - i) ∧ hdsR G = true ∧ T' ++ allB [44, 32] (decide (i = 0)) (txF G) = T4 ++ XA) ∧ Hid (WAt w0 b T' wr ∧ Kw w wr ∧ wr.heap[w.heap.size]? = some (.cells #[.int .i64 (kd : Int), .string (bs nm), .slice ka kn kc, .int .i64 pl] 37 (0, 0))))
  case atStart => exact ⟨args, 0, T4, rfl, by omega, ⟨HF0.out.1, HF0.out.2, HI0.out⟩, H4'.out⟩
  case round =>
    clear HF0 H4' HI0
    obtain ⟨G, i, T', rfl, hik, HG, HT⟩ := hrel
    have x2 := blk (i := 2) HT.out.2.2 rfl
    by_cases hi : i < kn
    · have hdi : decide ((i : Int) < (kn : Int)) = true := by simp; omega
      obtain ⟨b0, o0, h2, k2, r2, ka2, kc2, kk2, rfl, -, hok, hkc, ⟨c0, c1, c2, c3, c4⟩, hk2, hr2⟩ := foAt_head HG.out.1 hi
      have hka2 := hka (by omega)
      subst hka2
      have hR2 := HG.out.2.1
      simp only [hdsR, Bool.and_eq_true] at hR2
      have HLE : Hid (∀ (T : List UInt8) (w : World), WAt w0 b T w → Calls Tryd.prog 36 #[.pointer (some ⟨b, 0, none⟩), .agg #[.int .i64 h2.kind, .int .i64 h2.num, .string (bs h2.text), .slice ka2 kc2 kk2, .int .i64 h2.pl], .bool false] w (WPost w0 b T (txE (h2, k2)) w)) := fun T w h4 => HK.out (h2, k2) ka2 kc2 kk2 ⟨hok, hkc, hk2⟩ ⟨hR2.1, hR2.2.1⟩ T w h4
      have HNx : Hid (FoAt o S w0 r2 (some ⟨g, off + (i + 1) * 5, none⟩) (kn - (i + 1)) ∧ hdsR r2 = true ∧ T' ++ ((if i = 0 then [] else [44, 32]) ++ (txE (h2, k2) ++ allB [44, 32] false (txF r2))) = T4 ++ XA) := by
        refine ⟨hr2, hR2.2.2, ?_⟩
        have := HG.out.2.2
        simp only [txF, allB] at this
        rw [← this]
        by_cases h0 : i = 0 <;> simp [h0, txE]
      have HC5 : Hid (CellsAt w0 g (off + i * 5) (exCells h2 ka2 kc2 kk2)) := fun j u hj => by
        have hj5 : j < 5 := (List.getElem?_eq_some_iff.1 hj).1
        have : j = 0 ∨ j = 1 ∨ j = 2 ∨ j = 3 ∨ j = 4 := by omega
        rcases this with rfl | rfl | rfl | rfl | rfl <;> (cases hj; assumption)
      clear HG hok hkc hk2 hr2 hR2 c0 c1 c2 c3 c4
      by_cases h0 : i = 0
      · have hgt : decide ((0 : Int) < (i : Int)) = false := by simp; omega
        have hgn : ¬ 0 < i := by omega
        have HNz : Hid (T' ++ (txE (h2, k2) ++ allB [44, 32] false (txF r2)) = T4 ++ XA) := by have := HNx.out.2.2; rw [if_pos h0] at this; exact this
        obtain ⟨y0, y1, y2, y3, y4⟩ := five HC5.out HT.out.1.low
        clear h0
        go_wp2_with fail
        refine (HLE.out T' _ HT.out.1).mono ?_
        rintro e' w5 ⟨rfl, hS3, hk3⟩
        have HT3 : Hid (WAt w0 b (T' ++ txE (h2, k2)) w5 ∧ Kw w w5 ∧ w5.heap[w.heap.size]? = some (.cells #[.int .i64 (kd : Int), .string (bs nm), .slice (some ⟨g, off, none⟩) kn kc, .int .i64 pl] 37 (0, 0))) := ⟨hS3, HT.out.2.1.trans hk3, hk3.cells HT.out.2.2 (by decide) (by decide)⟩
        clear hS3 hk3 HT y0 y1 y2 y3 y4 x2
        go_wp2_with fail
        go_roundg (gk - 1)
        case measure => omega
        case rel => exact ⟨r2, i + 1, T' ++ txE (h2, k2), by go_num, by omega, ⟨HNx.out.1, HNx.out.2.1, by rw [decide_eq_false (by omega), List.append_assoc]; exact HNz.out⟩, HT3.out⟩
      · have hgt : decide ((0 : Int) < (i : Int)) = true := by simp; omega
        have HNz : Hid (T' ++ ([44, 32] ++ (txE (h2, k2) ++ allB [44, 32] false (txF r2))) = T4 ++ XA) := by have := HNx.out.2.2; rw [if_neg h0] at this; exact this
        have x0 := blk (i := 0) HT.out.2.2 rfl
        go_wp2_with fail
        refine (HLe.out T' _ HT.out.1).mono ?_
        rintro e' w5 ⟨rfl, hS3, hk3⟩
        have HT3 : Hid (WAt w0 b (T' ++ [44, 32]) w5 ∧ Kw w w5 ∧ w5.heap[w.heap.size]? = some (.cells #[.int .i64 (kd : Int), .string (bs nm), .slice (some ⟨g, off, none⟩) kn kc, .int .i64 pl] 37 (0, 0))) := ⟨hS3, HT.out.2.1.trans hk3, hk3.cells HT.out.2.2 (by decide) (by decide)⟩
        clear hS3 hk3 HT x2 x0
        have x2 := blk (i := 2) HT3.out.2.2 rfl
        obtain ⟨y0, y1, y2, y3, y4⟩ := five HC5.out HT3.out.1.low
        go_wp2_with fail
        refine (HLE.out _ _ HT3.out.1).mono ?_
        rintro e' w6 ⟨rfl, hS4, hk4⟩
        have HT4 : Hid (WAt w0 b (T' ++ [44, 32] ++ txE (h2, k2)) w6 ∧ Kw w w6 ∧ w6.heap[w.heap.size]? = some (.cells #[.int .i64 (kd : Int), .string (bs nm), .slice (some ⟨g, off, none⟩) kn kc, .int .i64 pl] 37 (0, 0))) := ⟨hS4, HT3.out.2.1.trans hk4, hk4.cells HT3.out.2.2 (by decide) (by decide)⟩
        clear hS4 hk4 HT3 x2 y0 y1 y2 y3 y4
        go_wp2_with fail
        go_roundg (gk - 1)
        case measure => omega
        case rel => exact ⟨r2, i + 1, T' ++ [44, 32] ++ txE (h2, k2), by go_num, by omega, ⟨HNx.out.1, HNx.out.2.1, by rw [decide_eq_false (by omega), List.append_assoc, List.append_assoc]; exact HNz.out⟩, HT4.out⟩
    · have hdi : decide ((i : Int) < (kn : Int)) = false := by simp; omega
      have HS9 : Hid (WAt w0 b (T4 ++ XA) wr ∧ Kw w wr) := by
        obtain ⟨h1, _, h4⟩ := HG.out
        rw [show kn - i = 0 by omega] at h1
        have hG : G = .nil := by
          cases G with
          | nil => rfl
          | node b0 o0 h2 k r => obtain ⟨_, _, _, _, _, m, hm, _⟩ := h1; omega
        subst hG
        simp only [txF, allB, List.append_nil] at h4
        rw [h4] at HT
        exact ⟨HT.out.1, HT.out.2.1⟩
      clear HG HT
      go_wp2_with fail
      refine (HLf.out _ _ HS9.out.1).mono ?_
      rintro e' w7 ⟨rfl, hp⟩
      have HP : Hid (WAt w0 b (T ++ X) w7 ∧ Kw w w7) := by
        rw [← HX4.out, ← List.append_assoc]
        exact ⟨hp.1, HS9.out.2.trans hp.2⟩
      clear hp
      go_wp2
      go_end0
      exact ⟨rfl, HP.out⟩
set_option maxRecDepth 20000 in
set_option maxHeartbeats 8000000 in
theorem witem_band {w0 : World} {b : Nat} {o : Bool} {S : Nat → Prop} (kd : Nat) (nm : List UInt8) (args : Fo) (pl : Int) (ka : Option Addr) (kn kc : Nat) (hF : FoAt o S w0 args ka kn) (hn : kn ≤ maxLen) (hRt : itRight ⟨(kd : Int), nm, args, pl⟩ = true) (hcls : kd = 8) (T : List UInt8) (w : World) (hS : WAt w0 b T w) :
    Calls Tryd.prog 21 #[.pointer (some ⟨b, 0, none⟩), .agg #[.int .i64 (kd : Int), .string (bs nm), .slice ka kn kc, .int .i64 pl]] w (WPost w0 b T (itB ⟨(kd : Int), nm, args, pl⟩) w) := by
  obtain ⟨hnm, hhd, hdp⟩ := it_facts hRt
  obtain ⟨hk1, hk10⟩ := it_kind hRt
  have hk1' : 1 ≤ kd := by have h9 : (1 : Int) ≤ (kd : Int) := hk1; omega
  have hk10' : kd < 11 := by have h9 : (kd : Int) ≤ 10 := hk10; omega
  have q1 : ((kd : Int) == 1) = false := by rw [beq_eq_false_iff_ne]; omega
  have q8 : ((kd : Int) == 8) = true := by rw [beq_iff_eq]; omega
  have HX : Hid (itB ⟨(kd : Int), nm, args, pl⟩ = headW (kd : Int) ++ (nm ++ ([] ++ (allB [32, 46, 46, 32] true (txF args) ++ [59, 10])))) := by
    show itB ⟨(kd : Int), nm, args, pl⟩ = _
    unfold itB
    rw [head_is hRt]
    show headW (kd : Int) ++ (nm ++ (if (kd : Int) = 1 then [32, 61, 32] else [])) ++ (allB (signI (kd : Int)) true (txF args) ++ [59, 10]) = _
    rw [if_neg (by omega), show signI (kd : Int) = [32, 46, 46, 32] from (by unfold signI; exact if_pos (by omega))]
    simp only [List.append_assoc]
  obtain ⟨g, off, hka, hF'⟩ := foAt_addr hF
  unfold maxLen at hn
  have HK : Hid (∀ (e : Ex) (ka : Option Addr) (kn kc : Nat), ExAt o S w0 e ka kn → ExR e → ∀ (T : List UInt8) (w : World), WAt w0 b T w → Calls Tryd.prog 36 #[.pointer (some ⟨b, 0, none⟩), .agg #[.int .i64 e.1.kind, .int .i64 e.1.num, .string (bs e.1.text), .slice ka kn kc, .int .i64 e.1.pl], .bool false] w (WPost w0 b T (txE e) w)) := fun e ka kn kc h1 h3 T w h4 => wkid_calls (wexpr_calls _ e ka kn kc h1 (Nat.lt_succ_self _) h3) false T w h4
  have HLa : Hid (∀ (T : List UInt8) (w : World), WAt w0 b T w → Calls Tryd.prog 35 #[.pointer (some ⟨b, 0, none⟩), .string (bs (headsB.getD kd []))] w (WPost w0 b T (headW (kd : Int)) w)) := fun T w h => by
    have := wlay_any (w0 := w0) (b := b) (bs (headW (kd : Int))) (headW_small ⟨hk1, hk10⟩) T w h
    rw [bs_data] at this; exact this
  have HLb : Hid (∀ (T : List UInt8) (w : World), WAt w0 b T w → Calls Tryd.prog 35 #[.pointer (some ⟨b, 0, none⟩), .string (bs nm)] w (WPost w0 b T nm w)) := fun T w h => by
    have := wlay_any (w0 := w0) (b := b) (bs nm) hnm T w h
    rw [bs_data] at this; exact this
  have HLc : Hid (∀ (T : List UInt8) (w : World), WAt w0 b T w → Calls Tryd.prog 35 #[.pointer (some ⟨b, 0, none⟩), .string ⟨#[32, 61, 32]⟩] w (WPost w0 b T [32, 61, 32] w)) := wlay_any ⟨#[32, 61, 32]⟩ (by decide)
  have HLe : Hid (∀ (T : List UInt8) (w : World), WAt w0 b T w → Calls Tryd.prog 35 #[.pointer (some ⟨b, 0, none⟩), .string ⟨#[32, 46, 46, 32]⟩] w (WPost w0 b T [32, 46, 46, 32] w)) := wlay_any ⟨#[32, 46, 46, 32]⟩ (by decide)
  have HLf : Hid (∀ (T : List UInt8) (w : World), WAt w0 b T w → Calls Tryd.prog 35 #[.pointer (some ⟨b, 0, none⟩), .string ⟨#[59, 10]⟩] w (WPost w0 b T [59, 10] w)) := wlay_any ⟨#[59, 10]⟩ (by decide)
  have HA : Hid (∀ cs, cs = headVals → ((w.alloc (.cells #[.int .i64 (kd : Int), .string (bs nm), .slice ka kn kc, .int .i64 pl] 37)).alloc (.cells cs 9 (0, 0))).heap[w.heap.size + 1]? = some (.cells headVals 9 (0, 0)) ∧ ((w.alloc (.cells #[.int .i64 (kd : Int), .string (bs nm), .slice ka kn kc, .int .i64 pl] 37)).alloc (.cells cs 9 (0, 0))).heap[w.heap.size]? = some (.cells #[.int .i64 (kd : Int), .string (bs nm), .slice ka kn kc, .int .i64 pl] 37 (0, 0)) ∧ WAt w0 b T ((w.alloc (.cells #[.int .i64 (kd : Int), .string (bs nm), .slice ka kn kc, .int .i64 pl] 37)).alloc (.cells cs 9 (0, 0))) ∧ Kw w ((w.alloc (.cells #[.int .i64 (kd : Int), .string (bs nm), .slice ka kn kc, .int .i64 pl] 37)).alloc (.cells cs 9 (0, 0)))) := fun cs h => by
    subst h
    have hb2 : Below w.heap.size w ((w.alloc (.cells #[.int .i64 (kd : Int), .string (bs nm), .slice ka kn kc, .int .i64 pl] 37)).alloc (.cells headVals 9 (0, 0))) := below_two w _ _
    exact ⟨twoN_new w _ _, heap_old (heap_alloc_new w _), hS.next hb2, Kw.of_below hb2⟩
  have HF0 : Hid (FoAt o S w0 args (some ⟨g, off + 0 * 5, none⟩) (kn - 0) ∧ hdsR args = true) := ⟨hF', hhd⟩
  have HCl : Hid (∀ W : World, W.heap[w.heap.size + 1]? = some (.cells headVals 9 (0, 0)) → W.cell? ⟨w.heap.size + 1, kd, none⟩ = some (.string (bs (headsB.getD kd [])))) := fun W h => head_cell _ _ _ h kd hk10'
  generalize headsB.getD kd [] = HD at *
  have HXA' : ∀ Z : List UInt8, Z ++ allB [32, 46, 46, 32] (decide ((0 : Nat) = 0)) (txF args) = Z ++ allB [32, 46, 46, 32] true (txF args) := fun _ => rfl
  generalize hXA0 : allB [32, 46, 46, 32] true (txF args) = XA at *
  have HXA0 : Hid (∀ Z : List UInt8, Z ++ allB [32, 46, 46, 32] (decide ((0 : Nat) = 0)) (txF args) = Z ++ XA) := HXA'
  clear HXA' hXA0
  generalize itB ⟨(kd : Int), nm, args, pl⟩ = X at *
  generalize headW (kd : Int) = XH at *
  clear hS hF hF' hhd hdp hnm hRt hk1 hk10 hcls
  go_enter Tryd.func21, Tryd.ntmps21
  go_upto_region 2 with (fail)
  generalize hW : World.alloc (World.alloc w _) _ = W at *
  have H1 : Hid (W.heap[w.heap.size]? = some (.cells #[.int .i64 (kd : Int), .string (bs nm), .slice ka kn kc, .int .i64 pl] 37 (0, 0)) ∧ WAt w0 b T W ∧ Kw w W) := by
    rw [← hW]; exact (HA.out _ rfl).2
  have hcell : W.cell? ⟨w.heap.size + 1, kd, none⟩ = some (.string (bs HD)) := HCl.out W (by rw [← hW]; exact (HA.out _ rfl).1)
  clear hW HA HCl
  have x0 := blk (i := 0) H1.out.1 rfl
  go_wp2_with fail
  refine (HLa.out T _ H1.out.2.1).mono ?_
  rintro e' w2 ⟨rfl, hS2, hk2⟩
  have H2 : Hid (WAt w0 b (T ++ XH) w2 ∧ Kw w w2 ∧ w2.heap[w.heap.size]? = some (.cells #[.int .i64 (kd : Int), .string (bs nm), .slice ka kn kc, .int .i64 pl] 37 (0, 0))) := ⟨hS2, H1.out.2.2.trans hk2, hk2.cells H1.out.1 (by decide) (by decide)⟩
  clear hS2 hk2 H1 HLa hcell x0
  have x1 := blk (i := 1) H2.out.2.2 rfl
  go_wp2_with fail
  refine (HLb.out _ _ H2.out.1).mono ?_
  rintro e' w3 ⟨rfl, hS3, hk3⟩
  have H3 : Hid (WAt w0 b (T ++ XH ++ nm) w3 ∧ Kw w w3 ∧ w3.heap[w.heap.size]? = some (.cells #[.int .i64 (kd : Int), .string (bs nm), .slice ka kn kc, .int .i64 pl] 37 (0, 0))) := ⟨hS3, H2.out.2.1.trans hk3, hk3.cells H2.out.2.2 (by decide) (by decide)⟩
  clear hS3 hk3 H2 HLb x1
  have x0 := blk (i := 0) H3.out.2.2 rfl
  have H4 : Hid (WAt w0 b (T ++ XH ++ nm ++ []) w3 ∧ Kw w w3 ∧ w3.heap[w.heap.size]? = some (.cells #[.int .i64 (kd : Int), .string (bs nm), .slice ka kn kc, .int .i64 pl] 37 (0, 0))) := by rw [List.append_nil]; exact H3.out
  clear H3
  obtain ⟨T4, hT4⟩ : ∃ T4, T4 = T ++ XH ++ nm ++ [] := ⟨_, rfl⟩
  have H4' : Hid (WAt w0 b T4 w3 ∧ Kw w w3 ∧ w3.heap[w.heap.size]? = some (.cells #[.int .i64 (kd : Int), .string (bs nm), .slice ka kn kc, .int .i64 pl] 37 (0, 0))) := by rw [hT4]; exact H4.out
  have HX4 : Hid (T4 ++ (XA ++ [59, 10]) = T ++ X) := by show _ = _; rw [hT4, HX.out]; simp only [List.append_assoc]
  have HI0 : Hid (T4 ++ allB [32, 46, 46, 32] (decide ((0 : Nat) = 0)) (txF args) = T4 ++ XA) := HXA0.out T4
  clear hT4 H4 HX HXA0
  go_wp2_with fail
  go_loopg [5] kn (fun k iv wr => ∃ (G : Fo) (i : Nat) (T' : List UInt8), iv = .int .i64 (i : Int) ∧ i + k = kn ∧ Hid (FoAt o S w0 G (some ⟨g, off + i * 5, none⟩) (kn - i) ∧ hdsR G = true ∧ T' ++ allB [32, 46, 46, 32] (decide (i = 0)) (txF G) = T4 ++ XA) ∧ Hid (WAt w0 b T' wr ∧ Kw w wr ∧ wr.heap[w.heap.size]? = some (.cells #[.int .i64 (kd : Int), .string (bs nm), .slice ka kn kc, .int .i64 pl] 37 (0, 0))))
  case atStart => exact ⟨args, 0, T4, rfl, by omega, ⟨HF0.out.1, HF0.out.2, HI0.out⟩, H4'.out⟩
  case round =>
    clear HF0 H4' HI0
    obtain ⟨G, i, T', rfl, hik, HG, HT⟩ := hrel
    have x2 := blk (i := 2) HT.out.2.2 rfl
    by_cases hi : i < kn
    · have hdi : decide ((i : Int) < (kn : Int)) = true := by simp; omega
      obtain ⟨b0, o0, h2, k2, r2, ka2, kc2, kk2, rfl, -, hok, hkc, ⟨c0, c1, c2, c3, c4⟩, hk2, hr2⟩ := foAt_head HG.out.1 hi
      have hka2 := hka (by omega)
      subst hka2
      have hR2 := HG.out.2.1
      simp only [hdsR, Bool.and_eq_true] at hR2
      have HLE : Hid (∀ (T : List UInt8) (w : World), WAt w0 b T w → Calls Tryd.prog 36 #[.pointer (some ⟨b, 0, none⟩), .agg #[.int .i64 h2.kind, .int .i64 h2.num, .string (bs h2.text), .slice ka2 kc2 kk2, .int .i64 h2.pl], .bool false] w (WPost w0 b T (txE (h2, k2)) w)) := fun T w h4 => HK.out (h2, k2) ka2 kc2 kk2 ⟨hok, hkc, hk2⟩ ⟨hR2.1, hR2.2.1⟩ T w h4
      have HNx : Hid (FoAt o S w0 r2 (some ⟨g, off + (i + 1) * 5, none⟩) (kn - (i + 1)) ∧ hdsR r2 = true ∧ T' ++ ((if i = 0 then [] else [32, 46, 46, 32]) ++ (txE (h2, k2) ++ allB [32, 46, 46, 32] false (txF r2))) = T4 ++ XA) := by
        refine ⟨hr2, hR2.2.2, ?_⟩
        have := HG.out.2.2
        simp only [txF, allB] at this
        rw [← this]
        by_cases h0 : i = 0 <;> simp [h0, txE]
      have HC5 : Hid (CellsAt w0 g (off + i * 5) (exCells h2 ka2 kc2 kk2)) := fun j u hj => by
        have hj5 : j < 5 := (List.getElem?_eq_some_iff.1 hj).1
        have : j = 0 ∨ j = 1 ∨ j = 2 ∨ j = 3 ∨ j = 4 := by omega
        rcases this with rfl | rfl | rfl | rfl | rfl <;> (cases hj; assumption)
      clear HG hok hkc hk2 hr2 hR2 c0 c1 c2 c3 c4
      by_cases h0 : i = 0
      · have hgt : decide ((0 : Int) < (i : Int)) = false := by simp; omega
        have hgn : ¬ 0 < i := by omega
        have HNz : Hid (T' ++ (txE (h2, k2) ++ allB [32, 46, 46, 32] false (txF r2)) = T4 ++ XA) := by have := HNx.out.2.2; rw [if_pos h0] at this; exact this
        obtain ⟨y0, y1, y2, y3, y4⟩ := five HC5.out HT.out.1.low
        clear h0
        go_wp2_with fail
        refine (HLE.out T' _ HT.out.1).mono ?_
        rintro e' w5 ⟨rfl, hS3, hk3⟩
        have HT3 : Hid (WAt w0 b (T' ++ txE (h2, k2)) w5 ∧ Kw w w5 ∧ w5.heap[w.heap.size]? = some (.cells #[.int .i64 (kd : Int), .string (bs nm), .slice (some ⟨g, off, none⟩) kn kc, .int .i64 pl] 37 (0, 0))) := ⟨hS3, HT.out.2.1.trans hk3, hk3.cells HT.out.2.2 (by decide) (by decide)⟩
        clear hS3 hk3 HT y0 y1 y2 y3 y4 x2
        go_wp2_with fail
        go_roundg (gk - 1)
        case measure => omega
        case rel => exact ⟨r2, i + 1, T' ++ txE (h2, k2), by go_num, by omega, ⟨HNx.out.1, HNx.out.2.1, by rw [decide_eq_false (by omega), List.append_assoc]; exact HNz.out⟩, HT3.out⟩
      · have hgt : decide ((0 : Int) < (i : Int)) = true := by simp; omega
        have HNz : Hid (T' ++ ([32, 46, 46, 32] ++ (txE (h2, k2) ++ allB [32, 46, 46, 32] false (txF r2))) = T4 ++ XA) := by have := HNx.out.2.2; rw [if_neg h0] at this; exact this
        have x0 := blk (i := 0) HT.out.2.2 rfl
        go_wp2_with fail
        refine (HLe.out T' _ HT.out.1).mono ?_
        rintro e' w5 ⟨rfl, hS3, hk3⟩
        have HT3 : Hid (WAt w0 b (T' ++ [32, 46, 46, 32]) w5 ∧ Kw w w5 ∧ w5.heap[w.heap.size]? = some (.cells #[.int .i64 (kd : Int), .string (bs nm), .slice (some ⟨g, off, none⟩) kn kc, .int .i64 pl] 37 (0, 0))) := ⟨hS3, HT.out.2.1.trans hk3, hk3.cells HT.out.2.2 (by decide) (by decide)⟩
        clear hS3 hk3 HT x2 x0
        have x2 := blk (i := 2) HT3.out.2.2 rfl
        obtain ⟨y0, y1, y2, y3, y4⟩ := five HC5.out HT3.out.1.low
        go_wp2_with fail
        refine (HLE.out _ _ HT3.out.1).mono ?_
        rintro e' w6 ⟨rfl, hS4, hk4⟩
        have HT4 : Hid (WAt w0 b (T' ++ [32, 46, 46, 32] ++ txE (h2, k2)) w6 ∧ Kw w w6 ∧ w6.heap[w.heap.size]? = some (.cells #[.int .i64 (kd : Int), .string (bs nm), .slice (some ⟨g, off, none⟩) kn kc, .int .i64 pl] 37 (0, 0))) := ⟨hS4, HT3.out.2.1.trans hk4, hk4.cells HT3.out.2.2 (by decide) (by decide)⟩
        clear hS4 hk4 HT3 x2 y0 y1 y2 y3 y4
        go_wp2_with fail
        go_roundg (gk - 1)
        case measure => omega
        case rel => exact ⟨r2, i + 1, T' ++ [32, 46, 46, 32] ++ txE (h2, k2), by go_num, by omega, ⟨HNx.out.1, HNx.out.2.1, by rw [decide_eq_false (by omega), List.append_assoc, List.append_assoc]; exact HNz.out⟩, HT4.out⟩
    · have hdi : decide ((i : Int) < (kn : Int)) = false := by simp; omega
      have HS9 : Hid (WAt w0 b (T4 ++ XA) wr ∧ Kw w wr) := by
        obtain ⟨h1, _, h4⟩ := HG.out
        rw [show kn - i = 0 by omega] at h1
        have hG : G = .nil := by
          cases G with
          | nil => rfl
          | node b0 o0 h2 k r => obtain ⟨_, _, _, _, _, m, hm, _⟩ := h1; omega
        subst hG
        simp only [txF, allB, List.append_nil] at h4
        rw [h4] at HT
        exact ⟨HT.out.1, HT.out.2.1⟩
      clear HG HT
      go_wp2_with fail
      refine (HLf.out _ _ HS9.out.1).mono ?_
      rintro e' w7 ⟨rfl, hp⟩
      have HP : Hid (WAt w0 b (T ++ X) w7 ∧ Kw w w7) := by
        rw [← HX4.out, ← List.append_assoc]
        exact ⟨hp.1, HS9.out.2.trans hp.2⟩
      clear hp
      go_wp2
      go_end0
      exact ⟨rfl, HP.out⟩
set_option maxRecDepth 20000 in
set_option maxHeartbeats 8000000 in
theorem witem_else {w0 : World} {b : Nat} {o : Bool} {S : Nat → Prop} (kd : Nat) (nm : List UInt8) (args : Fo) (pl : Int) (ka : Option Addr) (kn kc : Nat) (hF : FoAt o S w0 args ka kn) (hn : kn ≤ maxLen) (hRt : itRight ⟨(kd : Int), nm, args, pl⟩ = true) (hcls : kd ≠ 1 ∧ kd ≠ 8) (T : List UInt8) (w : World) (hS : WAt w0 b T w) :
    Calls Tryd.prog 21 #[.pointer (some ⟨b, 0, none⟩), .agg #[.int .i64 (kd : Int), .string (bs nm), .slice ka kn kc, .int .i64 pl]] w (WPost w0 b T (itB ⟨(kd : Int), nm, args, pl⟩) w) := by
  obtain ⟨hnm, hhd, hdp⟩ := it_facts hRt
  obtain ⟨hk1, hk10⟩ := it_kind hRt
  have hk1' : 1 ≤ kd := by have h9 : (1 : Int) ≤ (kd : Int) := hk1; omega
  have hk10' : kd < 11 := by have h9 : (kd : Int) ≤ 10 := hk10; omega
  have q1 : ((kd : Int) == 1) = false := by rw [beq_eq_false_iff_ne]; omega
  have q8 : ((kd : Int) == 8) = false := by rw [beq_eq_false_iff_ne]; omega
  have HX : Hid (itB ⟨(kd : Int), nm, args, pl⟩ = headW (kd : Int) ++ (nm ++ ([] ++ (allB [44, 32] true (txF args) ++ [59, 10])))) := by
    show itB ⟨(kd : Int), nm, args, pl⟩ = _
    unfold itB
    rw [head_is hRt]
    show headW (kd : Int) ++ (nm ++ (if (kd : Int) = 1 then [32, 61, 32] else [])) ++ (allB (signI (kd : Int)) true (txF args) ++ [59, 10]) = _
    rw [if_neg (by omega), show signI (kd : Int) = [44, 32] from (by unfold signI; exact if_neg (by omega))]
    simp only [List.append_assoc]
  obtain ⟨g, off, hka, hF'⟩ := foAt_addr hF
  unfold maxLen at hn
  have HK : Hid (∀ (e : Ex) (ka : Option Addr) (kn kc : Nat), ExAt o S w0 e ka kn → ExR e → ∀ (T : List UInt8) (w : World), WAt w0 b T w → Calls Tryd.prog 36 #[.pointer (some ⟨b, 0, none⟩), .agg #[.int .i64 e.1.kind, .int .i64 e.1.num, .string (bs e.1.text), .slice ka kn kc, .int .i64 e.1.pl], .bool false] w (WPost w0 b T (txE e) w)) := fun e ka kn kc h1 h3 T w h4 => wkid_calls (wexpr_calls _ e ka kn kc h1 (Nat.lt_succ_self _) h3) false T w h4
  have HLa : Hid (∀ (T : List UInt8) (w : World), WAt w0 b T w → Calls Tryd.prog 35 #[.pointer (some ⟨b, 0, none⟩), .string (bs (headsB.getD kd []))] w (WPost w0 b T (headW (kd : Int)) w)) := fun T w h => by
    have := wlay_any (w0 := w0) (b := b) (bs (headW (kd : Int))) (headW_small ⟨hk1, hk10⟩) T w h
    rw [bs_data] at this; exact this
  have HLb : Hid (∀ (T : List UInt8) (w : World), WAt w0 b T w → Calls Tryd.prog 35 #[.pointer (some ⟨b, 0, none⟩), .string (bs nm)] w (WPost w0 b T nm w)) := fun T w h => by
    have := wlay_any (w0 := w0) (b := b) (bs nm) hnm T w h
    rw [bs_data] at this; exact this
  have HLc : Hid (∀ (T : List UInt8) (w : World), WAt w0 b T w → Calls Tryd.prog 35 #[.pointer (some ⟨b, 0, none⟩), .string ⟨#[32, 61, 32]⟩] w (WPost w0 b T [32, 61, 32] w)) := wlay_any ⟨#[32, 61, 32]⟩ (by decide)
  have HLe : Hid (∀ (T : List UInt8) (w : World), WAt w0 b T w → Calls Tryd.prog 35 #[.pointer (some ⟨b, 0, none⟩), .string ⟨#[44, 32]⟩] w (WPost w0 b T [44, 32] w)) := wlay_any ⟨#[44, 32]⟩ (by decide)
  have HLf : Hid (∀ (T : List UInt8) (w : World), WAt w0 b T w → Calls Tryd.prog 35 #[.pointer (some ⟨b, 0, none⟩), .string ⟨#[59, 10]⟩] w (WPost w0 b T [59, 10] w)) := wlay_any ⟨#[59, 10]⟩ (by decide)
  have HA : Hid (∀ cs, cs = headVals → ((w.alloc (.cells #[.int .i64 (kd : Int), .string (bs nm), .slice ka kn kc, .int .i64 pl] 37)).alloc (.cells cs 9 (0, 0))).heap[w.heap.size + 1]? = some (.cells headVals 9 (0, 0)) ∧ ((w.alloc (.cells #[.int .i64 (kd : Int), .string (bs nm), .slice ka kn kc, .int .i64 pl] 37)).alloc (.cells cs 9 (0, 0))).heap[w.heap.size]? = some (.cells #[.int .i64 (kd : Int), .string (bs nm), .slice ka kn kc, .int .i64 pl] 37 (0, 0)) ∧ WAt w0 b T ((w.alloc (.cells #[.int .i64 (kd : Int), .string (bs nm), .slice ka kn kc, .int .i64 pl] 37)).alloc (.cells cs 9 (0, 0))) ∧ Kw w ((w.alloc (.cells #[.int .i64 (kd : Int), .string (bs nm), .slice ka kn kc, .int .i64 pl] 37)).alloc (.cells cs 9 (0, 0)))) := fun cs h => by
    subst h
    have hb2 : Below w.heap.size w ((w.alloc (.cells #[.int .i64 (kd : Int), .string (bs nm), .slice ka kn kc, .int .i64 pl] 37)).alloc (.cells headVals 9 (0, 0))) := below_two w _ _
    exact ⟨twoN_new w _ _, heap_old (heap_alloc_new w _), hS.next hb2, Kw.of_below hb2⟩
  have HF0 : Hid (FoAt o S w0 args (some ⟨g, off + 0 * 5, none⟩) (kn - 0) ∧ hdsR args = true) := ⟨hF', hhd⟩
  have HCl : Hid (∀ W : World, W.heap[w.heap.size + 1]? = some (.cells headVals 9 (0, 0)) → W.cell? ⟨w.heap.size + 1, kd, none⟩ = some (.string (bs (headsB.getD kd [])))) := fun W h => head_cell _ _ _ h kd hk10'
  generalize headsB.getD kd [] = HD at *
  have HXA' : ∀ Z : List UInt8, Z ++ allB [44, 32] (decide ((0 : Nat) = 0)) (txF args) = Z ++ allB [44, 32] true (txF args) := fun _ => rfl
  generalize hXA0 : allB [44, 32] true (txF args) = XA at *
  have HXA0 : Hid (∀ Z : List UInt8, Z ++ allB [44, 32] (decide ((0 : Nat) = 0)) (txF args) = Z ++ XA) := HXA'
  clear HXA' hXA0
  generalize itB ⟨(kd : Int), nm, args, pl⟩ = X at *
  generalize headW (kd : Int) = XH at *
  clear hS hF hF' hhd hdp hnm hRt hk1 hk10 hcls
  go_enter Tryd.func21, Tryd.ntmps21
  go_upto_region 2 with (fail)
  generalize hW : World.alloc (World.alloc w _) _ = W at *
  have H1 : Hid (W.heap[w.heap.size]? = some (.cells #[.int .i64 (kd : Int), .string (bs nm), .slice ka kn kc, .int .i64 pl] 37 (0, 0)) ∧ WAt w0 b T W ∧ Kw w W) := by
    rw [← hW]; exact (HA.out _ rfl).2
  have hcell : W.cell? ⟨w.heap.size + 1, kd, none⟩ = some (.string (bs HD)) := HCl.out W (by rw [← hW]; exact (HA.out _ rfl).1)
  clear hW HA HCl
  have x0 := blk (i := 0) H1.out.1 rfl
  go_wp2_with fail
  refine (HLa.out T _ H1.out.2.1).mono ?_
  rintro e' w2 ⟨rfl, hS2, hk2⟩
  have H2 : Hid (WAt w0 b (T ++ XH) w2 ∧ Kw w w2 ∧ w2.heap[w.heap.size]? = some (.cells #[.int .i64 (kd : Int), .string (bs nm), .slice ka kn kc, .int .i64 pl] 37 (0, 0))) := ⟨hS2, H1.out.2.2.trans hk2, hk2.cells H1.out.1 (by decide) (by decide)⟩
  clear hS2 hk2 H1 HLa hcell x0
  have x1 := blk (i := 1) H2.out.2.2 rfl
  go_wp2_with fail
  refine (HLb.out _ _ H2.out.1).mono ?_
  rintro e' w3 ⟨rfl, hS3, hk3⟩
  have H3 : Hid (WAt w0 b (T ++ XH ++ nm) w3 ∧ Kw w w3 ∧ w3.heap[w.heap.size]? = some (.cells #[.int .i64 (kd : Int), .string (bs nm), .slice ka kn kc, .int .i64 pl] 37 (0, 0))) := ⟨hS3, H2.out.2.1.trans hk3, hk3.cells H2.out.2.2 (by decide) (by decide)⟩
  clear hS3 hk3 H2 HLb x1
  have x0 := blk (i := 0) H3.out.2.2 rfl
  have H4 : Hid (WAt w0 b (T ++ XH ++ nm ++ []) w3 ∧ Kw w w3 ∧ w3.heap[w.heap.size]? = some (.cells #[.int .i64 (kd : Int), .string (bs nm), .slice ka kn kc, .int .i64 pl] 37 (0, 0))) := by rw [List.append_nil]; exact H3.out
  clear H3
  obtain ⟨T4, hT4⟩ : ∃ T4, T4 = T ++ XH ++ nm ++ [] := ⟨_, rfl⟩
  have H4' : Hid (WAt w0 b T4 w3 ∧ Kw w w3 ∧ w3.heap[w.heap.size]? = some (.cells #[.int .i64 (kd : Int), .string (bs nm), .slice ka kn kc, .int .i64 pl] 37 (0, 0))) := by rw [hT4]; exact H4.out
  have HX4 : Hid (T4 ++ (XA ++ [59, 10]) = T ++ X) := by show _ = _; rw [hT4, HX.out]; simp only [List.append_assoc]
  have HI0 : Hid (T4 ++ allB [44, 32] (decide ((0 : Nat) = 0)) (txF args) = T4 ++ XA) := HXA0.out T4
  clear hT4 H4 HX HXA0
  go_wp2_with fail
  go_loopg [5] kn (fun k iv wr => ∃ (G : Fo) (i : Nat) (T' : List UInt8), iv = .int .i64 (i : Int) ∧ i + k = kn ∧ Hid (FoAt o S w0 G (some ⟨g, off + i * 5, none⟩) (kn - i) ∧ hdsR G = true ∧ T' ++ allB [44, 32] (decide (i = 0)) (txF G) = T4 ++ XA) ∧ Hid (WAt w0 b T' wr ∧ Kw w wr ∧ wr.heap[w.heap.size]? = some (.cells #[.int .i64 (kd : Int), .string (bs nm), .slice ka kn kc, .int .i64 pl] 37 (0, 0))))
  case atStart => exact ⟨args, 0, T4, rfl, by omega, ⟨HF0.out.1, HF0.out.2, HI0.out⟩, H4'.out⟩
  case round =>
    clear HF0 H4' HI0
    obtain ⟨G, i, T', rfl, hik, HG, HT⟩ := hrel
    have x2 := blk (i := 2) HT.out.2.2 rfl
    by_cases hi : i < kn
    · have hdi : decide ((i : Int) < (kn : Int)) = true := by simp; omega
      obtain ⟨b0, o0, h2, k2, r2, ka2, kc2, kk2, rfl, -, hok, hkc, ⟨c0, c1, c2, c3, c4⟩, hk2, hr2⟩ := foAt_head HG.out.1 hi
      have hka2 := hka (by omega)
      subst hka2
      have hR2 := HG.out.2.1
      simp only [hdsR, Bool.and_eq_true] at hR2
      have HLE : Hid (∀ (T : List UInt8) (w : World), WAt w0 b T w → Calls Tryd.prog 36 #[.pointer (some ⟨b, 0, none⟩), .agg #[.int .i64 h2.kind, .int .i64 h2.num, .string (bs h2.text), .slice ka2 kc2 kk2, .int .i64 h2.pl], .bool false] w (WPost w0 b T (txE (h2, k2)) w)) := fun T w h4 => HK.out (h2, k2) ka2 kc2 kk2 ⟨hok, hkc, hk2⟩ ⟨hR2.1, hR2.2.1⟩ T w h4
      have HNx : Hid (FoAt o S w0 r2 (some ⟨g, off + (i + 1) * 5, none⟩) (kn - (i + 1)) ∧ hdsR r2 = true ∧ T' ++ ((if i = 0 then [] else [44, 32]) ++ (txE (h2, k2) ++ allB [44, 32] false (txF r2))) = T4 ++ XA) := by
        refine ⟨hr2, hR2.2.2, ?_⟩
        have := HG.out.2.2
        simp only [txF, allB] at this
        rw [← this]
        by_cases h0 : i = 0 <;> simp [h0, txE]
      have HC5 : Hid (CellsAt w0 g (off + i * 5) (exCells h2 ka2 kc2 kk2)) := fun j u hj => by
        have hj5 : j < 5 := (List.getElem?_eq_some_iff.1 hj).1
        have : j = 0 ∨ j = 1 ∨ j = 2 ∨ j = 3 ∨ j = 4 := by omega
        rcases this with rfl | rfl | rfl | rfl | rfl <;> (cases hj; assumption)
      clear HG hok hkc hk2 hr2 hR2 c0 c1 c2 c3 c4
      by_cases h0 : i = 0
      · have hgt : decide ((0 : Int) < (i : Int)) = false := by simp; omega
        have hgn : ¬ 0 < i := by omega
        have HNz : Hid (T' ++ (txE (h2, k2) ++ allB [44, 32] false (txF r2)) = T4 ++ XA) := by have := HNx.out.2.2; rw [if_pos h0] at this; exact this
        obtain ⟨y0, y1, y2, y3, y4⟩ := five HC5.out HT.out.1.low
        clear h0
        go_wp2_with fail
        refine (HLE.out T' _ HT.out.1).mono ?_
        rintro e' w5 ⟨rfl, hS3, hk3⟩
        have HT3 : Hid (WAt w0 b (T' ++ txE (h2, k2)) w5 ∧ Kw w w5 ∧ w5.heap[w.heap.size]? = some (.cells #[.int .i64 (kd : Int), .string (bs nm), .slice (some ⟨g, off, none⟩) kn kc, .int .i64 pl] 37 (0, 0))) := ⟨hS3, HT.out.2.1.trans hk3, hk3.cells HT.out.2.2 (by decide) (by decide)⟩
        clear hS3 hk3 HT y0 y1 y2 y3 y4 x2
        go_wp2_with fail
        go_roundg (gk - 1)
        case measure => omega
        case rel => exact ⟨r2, i + 1, T' ++ txE (h2, k2), by go_num, by omega, ⟨HNx.out.1, HNx.out.2.1, by rw [decide_eq_false (by omega), List.append_assoc]; exact HNz.out⟩, HT3.out⟩
      · have hgt : decide ((0 : Int) < (i : Int)) = true := by simp; omega
        have HNz : Hid (T' ++ ([44, 32] ++ (txE (h2, k2) ++ allB [44, 32] false (txF r2))) = T4 ++ XA) := by have := HNx.out.2.2; rw [if_neg h0] at this; exact this
        have x0 := blk (i := 0) HT.out.2.2 rfl
        go_wp2_with fail
        refine (HLe.out T' _ HT.out.1).mono ?_
        rintro e' w5 ⟨rfl, hS3, hk3⟩
        have HT3 : Hid (WAt w0 b (T' ++ [44, 32]) w5 ∧ Kw w w5 ∧ w5.heap[w.heap.size]? = some (.cells #[.int .i64 (kd : Int), .string (bs nm), .slice (some ⟨g, off, none⟩) kn kc, .int .i64 pl] 37 (0, 0))) := ⟨hS3, HT.out.2.1.trans hk3, hk3.cells HT.out.2.2 (by decide) (by decide)⟩
        clear hS3 hk3 HT x2 x0
        have x2 := blk (i := 2) HT3.out.2.2 rfl
        obtain ⟨y0, y1, y2, y3, y4⟩ := five HC5.out HT3.out.1.low
        go_wp2_with fail
        refine (HLE.out _ _ HT3.out.1).mono ?_
        rintro e' w6 ⟨rfl, hS4, hk4⟩
        have HT4 : Hid (WAt w0 b (T' ++ [44, 32] ++ txE (h2, k2)) w6 ∧ Kw w w6 ∧ w6.heap[w.heap.size]? = some (.cells #[.int .i64 (kd : Int), .string (bs nm), .slice (some ⟨g, off, none⟩) kn kc, .int .i64 pl] 37 (0, 0))) := ⟨hS4, HT3.out.2.1.trans hk4, hk4.cells HT3.out.2.2 (by decide) (by decide)⟩
        clear hS4 hk4 HT3 x2 y0 y1 y2 y3 y4
        go_wp2_with fail
        go_roundg (gk - 1)
        case measure => omega
        case rel => exact ⟨r2, i + 1, T' ++ [44, 32] ++ txE (h2, k2), by go_num, by omega, ⟨HNx.out.1, HNx.out.2.1, by rw [decide_eq_false (by omega), List.append_assoc, List.append_assoc]; exact HNz.out⟩, HT4.out⟩
    · have hdi : decide ((i : Int) < (kn : Int)) = false := by simp; omega
      have HS9 : Hid (WAt w0 b (T4 ++ XA) wr ∧ Kw w wr) := by
        obtain ⟨h1, _, h4⟩ := HG.out
        rw [show kn - i = 0 by omega] at h1
        have hG : G = .nil := by
          cases G with
          | nil => rfl
          | node b0 o0 h2 k r => obtain ⟨_, _, _, _, _, m, hm, _⟩ := h1; omega
        subst hG
        simp only [txF, allB, List.append_nil] at h4
        rw [h4] at HT
        exact ⟨HT.out.1, HT.out.2.1⟩
      clear HG HT
      go_wp2_with fail
      refine (HLf.out _ _ HS9.out.1).mono ?_
      rintro e' w7 ⟨rfl, hp⟩
      have HP : Hid (WAt w0 b (T ++ X) w7 ∧ Kw w w7) := by
        rw [← HX4.out, ← List.append_assoc]
        exact ⟨hp.1, HS9.out.2.trans hp.2⟩
      clear hp
      go_wp2
      go_end0
      exact ⟨rfl, HP.out⟩
theorem witem_calls {w0 : World} {b : Nat} {o : Bool} {S : Nat → Prop} (it : It) (ka : Option Addr) (kn kc : Nat) (hF : FoAt o S w0 it.args ka kn) (hn : kn ≤ maxLen) (hRt : itRight it = true) (T : List UInt8) (w : World) (hS : WAt w0 b T w) :
    Calls Tryd.prog 21 #[.pointer (some ⟨b, 0, none⟩), .agg #[.int .i64 it.kind, .string (bs it.name), .slice ka kn kc, .int .i64 it.pl]] w (WPost w0 b T (itB it) w) := by
  obtain ⟨kind, nm, args, pl⟩ := it
  obtain ⟨kd, rfl⟩ : ∃ kd : Nat, kind = (kd : Int) := ⟨kind.toNat, by have h9 : 1 ≤ kind := (it_kind hRt).1; omega⟩
  by_cases h1 : kd = 1
  · exact witem_let kd nm args pl ka kn kc hF hn hRt h1 T w hS
  by_cases h8 : kd = 8
  · exact witem_band kd nm args pl ka kn kc hF hn hRt h8 T w hS
  · exact witem_else kd nm args pl ka kn kc hF hn hRt ⟨h1, h8⟩ T w hS
theorem owned_text {w : World} {base : Nat} {ao : Option Addr} {n cap : Nat} {t : List UInt8} (h : w.ownsRow base 5 1 (.slice ao n cap) n (bV t)) :
    (convert 47 9 (.slice ao n cap)).run Tryd.prog w = .ok (.string ⟨t.toArray⟩) w := by
  have hl : t.length = n := by have := h.1; rw [bV_length] at this; omega
  rcases h.2 with ⟨hv, rfl⟩ | ⟨g, cap', cur, hv, hb, hg, _⟩
  · cases hv
    have ht : t = [] := List.eq_nil_of_length_eq_zero hl
    subst ht
    rw [run_convert_bytes_string w 47 9 5 none 0 0 Tryd.underlying47 Tryd.underlying5 Tryd.underlying9]
    rfl
  · cases hv
    subst hl
    refine run_convert_bytes_back w 47 9 5 ⟨g, 0, none⟩ cap t Tryd.underlying47 Tryd.underlying5 Tryd.underlying9 ?_
    intro j hj
    exact h.cells (g := g) rfl j (.int .u8 (t[j].toNat : Int)) (by simp [bV, Lib.byteCells, hj])
set_option maxRecDepth 20000 in
set_option maxHeartbeats 4000000 in
theorem wprint_calls {o : Bool} {S : Nat → Prop} (L : List It) (ao : Option Addr) (n c : Nat) (w : World) (hF : ItsAt o S w L ao n) (hn : n ≤ maxLen) :
    Calls Tryd.prog 9 #[.agg #[.slice ao n c]] w fun e w' => TextPost (printB L) w e w' := by
  have hb0 : Below w.heap.size w (w.alloc (.cells #[.slice ao n c] 24)) := low_alloc _ _
  have HRt : Hid (Calls Tryd.prog 20 #[.agg #[.slice ao n c]] (w.alloc (.cells #[.slice ao n c] 24)) fun e' w' => e' = .returned (.bool (treeRight L)) ∧ Below (w.alloc (.cells #[.slice ao n c] 24)).heap.size (w.alloc (.cells #[.slice ao n c] 24)) w') := rightR_calls L ao n c _ (hF.below hb0) hn
  have H0 : Hid (Below w.heap.size w (w.alloc (.cells #[.slice ao n c] 24)) ∧ (w.alloc (.cells #[.slice ao n c] 24)).heap[w.heap.size]? = some (.cells #[.slice ao n c] 24 (0, 0))) := ⟨hb0, heap_alloc_new w _⟩
  have HF : Hid (ItsAt o S w L ao n) := hF
  have HP : Hid (printB L = if treeRight L then (if (treeB L).length ≤ 4000 then (treeB L, 0) else ([], 2)) else ([], 80)) := rfl
  have hn2 := hn
  unfold maxLen at hn2
  clear hF hb0
  cases hr : treeRight L with
  | false =>
    have HE : Hid (printB L = ([], 80)) := by have := HP.out; rw [hr, if_neg (by decide)] at this; exact this
    rw [hr] at HRt
    generalize printB L = A at *
    clear hr HP
    go_enter Tryd.func9, Tryd.ntmps9
    go_wp2_with fail
    refine HRt.out.mono ?_
    rintro e w2 ⟨rfl, hb2⟩
    have HB : Hid (Below w.heap.size w w2) := H0.out.1.trans (hb2.mono H0.out.1.size)
    clear hb2 HRt
    go_wp2
    go_ret2
    exact text_post HE.out rfl HB.out
  | true =>
    rw [hr] at HRt
    have HRA : Hid (∀ i ∈ L, itRight i = true) := by
      unfold treeRight at hr
      simp only [Bool.and_eq_true, decide_eq_true_eq, List.all_eq_true] at hr
      exact hr.2
    have HP2 : Hid (printB L = if (treeB L).length ≤ 4000 then (treeB L, 0) else ([], 2)) := by have := HP.out; rw [hr, if_pos rfl] at this; exact this
    generalize printB L = A at *
    clear hr HP
    obtain ⟨g, off, hka, hF'⟩ := itsAt_addr HF.out
    have HF' : Hid (ItsAt o S w L (some ⟨g, off + 0 * 4, none⟩) (n - 0)) := hF'
    clear hF'
    go_enter Tryd.func9, Tryd.ntmps9
    go_wp2_with fail
    refine HRt.out.mono ?_
    rintro e w2 ⟨rfl, hb2⟩
    have hbx : w2.heap[w.heap.size]? = some (.cells #[.slice ao n c] 24 (0, 0)) := by rw [hb2.block _ (lt_block H0.out.2)]; exact H0.out.2
    have HB : Hid (Below w.heap.size w w2) := H0.out.1.trans (hb2.mono H0.out.1.size)
    have HS0 : Hid (WAt w2 w2.heap.size [] (w2.alloc (.cells #[.slice none 0 0] 57)) ∧ (w2.alloc (.cells #[.slice none 0 0] 57)).heap[w.heap.size]? = some (.cells #[.slice ao n c] 24 (0, 0))) := ⟨⟨[], none, 0, heap_alloc_new w2 _, World.ownsRow_nil _ _ _ _, ⟨fun _ => rfl, fun h => by simp at h⟩, by simp, Nat.le_refl _, low_alloc _ _⟩, heap_old hbx⟩
    have HF2 : Hid (ItsAt o S w2 L (some ⟨g, off + 0 * 4, none⟩) (n - 0)) := HF'.out.below HB.out
    clear hb2 HRt hbx H0 HF HF'
    go_wp2_with fail
    generalize w2.alloc (.cells #[.slice none 0 0] 57) = w3 at *
    go_loopg [6] n (fun k iv wr => ∃ (L' : List It) (i : Nat) (T : List UInt8), iv = .int .i64 (i : Int) ∧ i + k = n ∧ Hid (ItsAt o S w2 L' (some ⟨g, off + i * 4, none⟩) (n - i) ∧ (∀ i ∈ L', itRight i = true) ∧ T ++ treeB L' = treeB L) ∧ Hid (WAt w2 w2.heap.size T wr ∧ wr.heap[w.heap.size]? = some (.cells #[.slice ao n c] 24 (0, 0))))
    case atStart => exact ⟨L, 0, [], rfl, by omega, ⟨HF2.out, HRA.out, rfl⟩, HS0.out⟩
    case round =>
      clear HS0
      obtain ⟨L', i, T, rfl, hik, HG, HT⟩ := hrel
      have x0 := blk (i := 0) HT.out.2 rfl
      by_cases hi : i < n
      · have hdi : decide ((i : Int) < (n : Int)) = true := by simp; omega
        obtain ⟨it, r9, ka, kc, kk, rfl, -, hok, hkc, ⟨c0, c1, c2, c3⟩, hk2, hr2⟩ := itsAt_head HG.out.1 hi
        have hka2 := hka (by omega)
        subst hka2
        have HLi : Hid (Calls Tryd.prog 21 #[.pointer (some ⟨w2.heap.size, 0, none⟩), .agg #[.int .i64 it.kind, .string (bs it.name), .slice ka kc kk, .int .i64 it.pl]] wr (WPost w2 w2.heap.size T (itB it) wr)) := witem_calls it ka kc kk hk2 hkc (HG.out.2.1 it (by simp)) T _ HT.out.1
        have HNx : Hid (ItsAt o S w2 r9 (some ⟨g, off + (i + 1) * 4, none⟩) (n - (i + 1)) ∧ (∀ i ∈ r9, itRight i = true) ∧ (T ++ itB it) ++ treeB r9 = treeB L) := ⟨hr2, fun j hj => HG.out.2.1 j (by simp [hj]), by rw [List.append_assoc]; exact HG.out.2.2⟩
        have y0 := keepc HT.out.1.low c0
        have y1 := keepc HT.out.1.low c1
        have y2 := keepc HT.out.1.low c2
        have y3 := keepc HT.out.1.low c3
        clear HG hok hkc hk2 hr2 c0 c1 c2 c3
        go_wp2_with fail
        refine HLi.out.mono ?_
        rintro e w4 ⟨rfl, hS4, hk4⟩
        have HT4 : Hid (WAt w2 w2.heap.size (T ++ itB it) w4 ∧ w4.heap[w.heap.size]? = some (.cells #[.slice (some ⟨g, off, none⟩) n c] 24 (0, 0))) := ⟨hS4, hk4.cells HT.out.2 (by decide) (by decide)⟩
        clear hS4 hk4 HT x0 y0 y1 y2 y3
        go_wp2_with fail
        go_roundg (gk - 1)
        case measure => omega
        case rel => exact ⟨r9, i + 1, T ++ itB it, by go_num, by omega, HNx.out, HT4.out⟩
      · have hdi : decide ((i : Int) < (n : Int)) = false := by simp; omega
        have HX : Hid (T = treeB L) := by
          obtain ⟨h1, _, h3⟩ := HG.out
          rw [show n - i = 0 by omega] at h1
          have h4 := itsAt_end h1
          subst h4
          have h5 : T ++ [] = treeB L := h3
          rw [List.append_nil] at h5
          exact h5
        obtain ⟨T', ta, tcap, hbk, hown, hwt, hsm, hbb, hlow⟩ := HT.out.1
        have hc := blk (i := 0) hbk rfl
        have HBf : Hid (Below w.heap.size w wr) := HB.out.trans (hlow.mono HB.out.size)
        have hconv := owned_text hown
        by_cases h4 : 4000 < T'.length
        · have hd4 : decide ((4000 : Int) < (T'.length : Int)) = true := by simp only [decide_eq_true_eq]; omega
          have HE : Hid (A = ([], 2)) := by
            have h1 := HP2.out
            rw [← HX.out, if_neg (fun h => by rw [hwt.1 h] at h4; omega)] at h1
            exact h1
          generalize T'.length = m at *
          clear HG HT HX HP2 hbk hown hwt hbb hlow h4 hsm
          go_wp2
          go_ret2
          exact text_post HE.out rfl HBf.out
        · have hd4 : decide ((4000 : Int) < (T'.length : Int)) = false := by simp only [decide_eq_false_iff_not]; omega
          have HE : Hid (A = (T', 0)) := by
            have h1 := HP2.out
            have h2 : T.length ≤ 4000 := by
              rcases Nat.lt_or_ge 4000 T.length with h | h
              · exact absurd (hwt.2 h) h4
              · exact h
            rw [← HX.out, if_pos h2, ← hwt.1 h2] at h1
            exact h1
          generalize T'.length = m at *
          clear HG HT HX HP2 hbk hown hwt hbb hlow h4 hsm
          go_wp2
          go_ret2
          exact text_post HE.out rfl HBf.out

end Go.Proofs.YtpeldiibjhffiaaDoor
