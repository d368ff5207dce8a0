/-
  The document's writer: two, expr. The document's writer: expr, by kinds. Items are laid down.
-/
import Derived.Test.YtpeldiibjhffiaaGreatDoorG33
import Derived.Test.YtpeldiibjhffiaaGreatDoorDrawn
namespace Go.Proofs.YtpeldiibjhffiaaGreatDoor
open Go.RowKit Go.Deep

theorem bool_and (a b : Bool) : (a && b) = (if a then b else false) := by cases a <;> rfl
set_option maxRecDepth 20000 in
set_option maxHeartbeats 4000000 in
theorem wtwo_calls {w0 : World} {b : Nat} (h : Hd) (g off kn kc : Nat) (e1 e2 : Ex) (k1 k2 : Option Addr) (n1 c1 n2 c2 : Nat) (hkn : 2 ≤ kn) (cs1 : CellsAt w0 g off (exCells e1.1 k1 n1 c1)) (cs2 : CellsAt w0 g (off + 5) (exCells e2.1 k2 n2 c2))
    (H1 : WEx w0 b e1 k1 n1 c1) (H2 : WEx w0 b e2 k2 n2 c2) (sg : ByteArray) (hsg : sg.size ≤ 100) (T : List UInt8) (w : World) (hS : WAt w0 b T w) :
    Calls Tryz.prog 52 #[.pointer (some ⟨b, 0, none⟩), .agg #[.int .i64 h.kind, .int .i64 h.num, .string (bs h.text), .slice (some ⟨g, off, none⟩) kn kc, .int .i64 h.pl], .string sg] w (WPost w0 b T (brW (decide (h.kind = 7) && sumB e1.1.kind) (txE e1) ++ (sg.data.toList ++ brW (sumB e2.1.kind || (decide (h.kind = 7) && decide (e2.1.kind = 7))) (txE e2))) w) := by
  have hk0 : ¬ kn = 0 := by omega
  have hk1 : 1 < kn := by omega
  have HK1 : Hid (∀ (br : Bool) (T : List UInt8) (w : World), WAt w0 b T w → Calls Tryz.prog 14 #[.pointer (some ⟨b, 0, none⟩), .agg #[.int .i64 e1.1.kind, .int .i64 e1.1.num, .string (bs e1.1.text), .slice k1 n1 c1, .int .i64 e1.1.pl], .bool br] w (WPost w0 b T (brW br (txE e1)) w)) := fun br T w h1 => wkid_calls H1 br T w h1
  have HK2 : Hid (∀ (br : Bool) (T : List UInt8) (w : World), WAt w0 b T w → Calls Tryz.prog 14 #[.pointer (some ⟨b, 0, none⟩), .agg #[.int .i64 e2.1.kind, .int .i64 e2.1.num, .string (bs e2.1.text), .slice k2 n2 c2, .int .i64 e2.1.pl], .bool br] w (WPost w0 b T (brW br (txE e2)) w)) := fun br T w h1 => wkid_calls H2 br T w h1
  have HLy : Hid (∀ (T : List UInt8) (w : World), WAt w0 b T w → Calls Tryz.prog 29 #[.pointer (some ⟨b, 0, none⟩), .string sg] w (WPost w0 b T sg.data.toList w)) := fun T w h2 => wlay_calls w0 b T sg hsg w h2
  have HS1 : Hid (∀ w, Calls Tryz.prog 50 #[.agg #[.int .i64 e1.1.kind, .int .i64 e1.1.num, .string (bs e1.1.text), .slice k1 n1 c1, .int .i64 e1.1.pl]] w fun e w' => e = .returned (.bool (sumB e1.1.kind)) ∧ Below w.heap.size w w') := fun w => sum_calls _ _ _ _ w
  have HS2 : Hid (∀ w, Calls Tryz.prog 50 #[.agg #[.int .i64 e2.1.kind, .int .i64 e2.1.num, .string (bs e2.1.text), .slice k2 n2 c2, .int .i64 e2.1.pl]] w fun e w' => e = .returned (.bool (sumB e2.1.kind)) ∧ Below w.heap.size w w') := fun w => sum_calls _ _ _ _ w
  have HP2 : Hid (∀ w, Calls Tryz.prog 51 #[.agg #[.int .i64 e2.1.kind, .int .i64 e2.1.num, .string (bs e2.1.text), .slice k2 n2 c2, .int .i64 e2.1.pl]] w fun e w' => e = .returned (.bool (decide (e2.1.kind = 7))) ∧ Below w.heap.size w w') := fun w => product_calls _ _ _ _ w
  have HQ7 : Hid (decide (h.kind = 7) = (h.kind == 7)) := by show _ = _; rw [Bool.eq_iff_iff]; simp
  have HN : Hid (WAt w0 b T (w.alloc (.cells #[.int .i64 h.kind, .int .i64 h.num, .string (bs h.text), .slice (some ⟨g, off, none⟩) kn kc, .int .i64 h.pl] 24)) ∧ Kw w (w.alloc (.cells #[.int .i64 h.kind, .int .i64 h.num, .string (bs h.text), .slice (some ⟨g, off, none⟩) kn kc, .int .i64 h.pl] 24)) ∧ (w.alloc (.cells #[.int .i64 h.kind, .int .i64 h.num, .string (bs h.text), .slice (some ⟨g, off, none⟩) kn kc, .int .i64 h.pl] 24)).heap[w.heap.size]? = some (.cells #[.int .i64 h.kind, .int .i64 h.num, .string (bs h.text), .slice (some ⟨g, off, none⟩) kn kc, .int .i64 h.pl] 24 (0, 0))) := ⟨hS.next (low_alloc _ _), kw_alloc _ _, heap_alloc_new w _⟩
  have HC : Hid (∀ W, Below w0.heap.size w0 W → (W.cell? ⟨g, off, none⟩ = some (.int .i64 e1.1.kind) ∧ W.cell? ⟨g, off + 1, none⟩ = some (.int .i64 e1.1.num) ∧ W.cell? ⟨g, off + 2, none⟩ = some (.string (bs e1.1.text)) ∧ W.cell? ⟨g, off + 3, none⟩ = some (.slice k1 n1 c1) ∧ W.cell? ⟨g, off + 4, none⟩ = some (.int .i64 e1.1.pl)) ∧ (W.cell? ⟨g, off + 5, none⟩ = some (.int .i64 e2.1.kind) ∧ W.cell? ⟨g, off + 5 + 1, none⟩ = some (.int .i64 e2.1.num) ∧ W.cell? ⟨g, off + 5 + 2, none⟩ = some (.string (bs e2.1.text)) ∧ W.cell? ⟨g, off + 5 + 3, none⟩ = some (.slice k2 n2 c2) ∧ W.cell? ⟨g, off + 5 + 4, none⟩ = some (.int .i64 e2.1.pl))) := fun W hW => ⟨five cs1 hW, five cs2 hW⟩
  clear hS cs1 cs2 H1 H2 hsg hkn
  generalize decide (e2.1.kind = 7) = p2 at *
  generalize sumB e1.1.kind = s1 at *
  generalize sumB e2.1.kind = s2 at *
  generalize decide (h.kind = 7) = d7 at *
  generalize hq7 : (h.kind == 7) = q7 at *
  have hdq : d7 = q7 := HQ7.out
  subst hdq
  clear HQ7
  generalize txE e1 = X1 at *
  generalize txE e2 = X2 at *
  generalize sg.data.toList = XS at *
  obtain ⟨⟨y0, y1, y2, y3, y4⟩, -⟩ := HC.out _ HN.out.1.low
  go_enter Tryz.func52, Tryz.ntmps52
  go_wp2_with fail
  refine (HS1.out _).mono ?_
  rintro e' w1 ⟨rfl, hb1⟩
  have H1 : Hid (WAt w0 b T w1 ∧ Kw w w1 ∧ w1.heap[w.heap.size]? = some (.cells #[.int .i64 h.kind, .int .i64 h.num, .string (bs h.text), .slice (some ⟨g, off, none⟩) kn kc, .int .i64 h.pl] 24 (0, 0))) := ⟨HN.out.1.next hb1, HN.out.2.1.trans (Kw.of_below hb1), (Kw.of_below hb1).cells HN.out.2.2 (by decide) (by decide)⟩
  clear hb1 HN y0 y1 y2 y3 y4 HS1
  have x3 := blk (i := 3) H1.out.2.2 rfl
  obtain ⟨-, y0, y1, y2, y3, y4⟩ := HC.out _ H1.out.1.low
  go_wp2_with fail
  refine (HS2.out _).mono ?_
  rintro e' w2 ⟨rfl, hb2⟩
  have H2 : Hid (WAt w0 b T w2 ∧ Kw w w2 ∧ w2.heap[w.heap.size]? = some (.cells #[.int .i64 h.kind, .int .i64 h.num, .string (bs h.text), .slice (some ⟨g, off, none⟩) kn kc, .int .i64 h.pl] 24 (0, 0))) := ⟨H1.out.1.next hb2, H1.out.2.1.trans (Kw.of_below hb2), (Kw.of_below hb2).cells H1.out.2.2 (by decide) (by decide)⟩
  clear hb2 H1 y0 y1 y2 y3 y4 HS2 x3
  have x3 := blk (i := 3) H2.out.2.2 rfl
  obtain ⟨-, y0, y1, y2, y3, y4⟩ := HC.out _ H2.out.1.low
  go_wp2_with fail
  refine (HP2.out _).mono ?_
  rintro e' w3 ⟨rfl, hb3⟩
  have H3 : Hid (WAt w0 b T w3 ∧ Kw w w3 ∧ w3.heap[w.heap.size]? = some (.cells #[.int .i64 h.kind, .int .i64 h.num, .string (bs h.text), .slice (some ⟨g, off, none⟩) kn kc, .int .i64 h.pl] 24 (0, 0))) := ⟨H2.out.1.next hb3, H2.out.2.1.trans (Kw.of_below hb3), (Kw.of_below hb3).cells H2.out.2.2 (by decide) (by decide)⟩
  clear hb3 H2 y0 y1 y2 y3 y4 HP2 x3
  have x3 := blk (i := 3) H3.out.2.2 rfl
  have x0 := blk (i := 0) H3.out.2.2 rfl
  obtain ⟨⟨y0, y1, y2, y3, y4⟩, -⟩ := HC.out _ H3.out.1.low
  have HF : Hid (∀ (w4 : World), WPost w0 b T (brW (d7 && s1) X1) w3 (.returned (.tuple #[])) w4 → (WAt w0 b (T ++ brW (d7 && s1) X1) w4 ∧ Kw w w4 ∧ w4.heap[w.heap.size]? = some (.cells #[.int .i64 h.kind, .int .i64 h.num, .string (bs h.text), .slice (some ⟨g, off, none⟩) kn kc, .int .i64 h.pl] 24 (0, 0)))) := fun w4 hp => ⟨hp.2.1, H3.out.2.1.trans hp.2.2, hp.2.2.cells H3.out.2.2 (by decide) (by decide)⟩
  have HTail : Hid (∀ w4, WPost w0 b T (brW (d7 && s1) X1) w3 (.returned (.tuple #[])) w4 → Kw w w4) := fun w4 hp => H3.out.2.1.trans hp.2.2
  cases d7 <;> cases s1 <;> (
    go_wp2_with fail
    refine (HK1.out _ T _ H3.out.1).mono ?_
    rintro e' w4 ⟨rfl, hp4⟩
    obtain ⟨hS4, hk4, hbx4⟩ := HF.out w4 ⟨rfl, hp4⟩
    have H4 : Hid (WAt w0 b (T ++ brW _ X1) w4 ∧ Kw w w4 ∧ w4.heap[w.heap.size]? = some (.cells #[.int .i64 h.kind, .int .i64 h.num, .string (bs h.text), .slice (some ⟨g, off, none⟩) kn kc, .int .i64 h.pl] 24 (0, 0))) := ⟨hS4, hk4, hbx4⟩
    clear hp4 hS4 hk4 hbx4 y0 y1 y2 y3 y4 x3 x0 HF HTail
    go_wp2_with fail
    refine (HLy.out _ _ H4.out.1).mono ?_
    rintro e' w5 ⟨rfl, hS5, hk5⟩
    have hbx5 := hk5.cells H4.out.2.2 (by decide) (by decide)
    have x3 := blk (i := 3) hbx5 rfl
    obtain ⟨-, y0, y1, y2, y3, y4⟩ := HC.out _ hS5.low
    have H5 : Hid (WAt w0 b (T ++ brW _ X1 ++ XS) w5 ∧ Kw w4 w5) := ⟨hS5, hk5⟩
    clear hS5 hk5 hbx5
    cases s2 <;> cases p2 <;> (
      go_wp2_with fail
      refine (HK2.out _ _ _ H5.out.1).mono ?_
      rintro e' w6 ⟨rfl, hp6⟩
      have HP := WPost.after (WPost.after (w := w4) ⟨rfl, hp6⟩ H5.out.2) H4.out.2.1
      have HP' : Hid _ := HP
      clear hp6 HP y0 y1 y2 y3 y4 x3
      go_wp2
      go_end0
      exact ⟨rfl, HP'.out.2⟩))

end Go.Proofs.YtpeldiibjhffiaaGreatDoor
namespace Go.Proofs.YtpeldiibjhffiaaGreatDoor
open Go.RowKit Go.Deep

theorem wlay_any {w0 : World} {b : Nat} (s : ByteArray) (hs : s.size ≤ 100) : ∀ (T : List UInt8) (w : World), WAt w0 b T w → Calls Tryz.prog 29 #[.pointer (some ⟨b, 0, none⟩), .string s] w (WPost w0 b T s.data.toList w) := fun T w h => wlay_calls w0 b T s hs w h
set_option maxRecDepth 20000 in
set_option maxHeartbeats 4000000 in
theorem wE_num {w0 : World} {b : Nat} (e : Ex) (ka : Option Addr) (kn kc : Nat) (hk : e.1.kind = 1) (h0 : 0 ≤ e.1.num) (h1 : e.1.num ≤ 72057594037927936) (T : List UInt8) (w : World) (hS : WAt w0 b T w) :
    Calls Tryz.prog 30 #[.pointer (some ⟨b, 0, none⟩), .agg #[.int .i64 e.1.kind, .int .i64 e.1.num, .string (bs e.1.text), .slice ka kn kc, .int .i64 e.1.pl]] w (WPost w0 b T (txE e) w) := by
  have HN : Hid (WAt w0 b T (w.alloc (.cells #[.int .i64 e.1.kind, .int .i64 e.1.num, .string (bs e.1.text), .slice ka kn kc, .int .i64 e.1.pl] 24)) ∧ Kw w (w.alloc (.cells #[.int .i64 e.1.kind, .int .i64 e.1.num, .string (bs e.1.text), .slice ka kn kc, .int .i64 e.1.pl] 24)) ∧ (w.alloc (.cells #[.int .i64 e.1.kind, .int .i64 e.1.num, .string (bs e.1.text), .slice ka kn kc, .int .i64 e.1.pl] 24)).heap[w.heap.size]? = some (.cells #[.int .i64 e.1.kind, .int .i64 e.1.num, .string (bs e.1.text), .slice ka kn kc, .int .i64 e.1.pl] 24 (0, 0))) := ⟨hS.next (low_alloc _ _), kw_alloc _ _, heap_alloc_new w _⟩
  have q1 : (e.1.kind == 1) = true := by rw [hk]; rfl
  have HX : Hid (txE e = (bs (Lib.decDigits e.1.num.toNat)).data.toList) := by show exB e.1 _ = _; unfold exB; rw [if_pos hk, bs_data]
  have HI : Hid (∀ W, Calls Tryz.prog 49 #[.int .i64 e.1.num] W fun e' w' => e' = .returned (.string (bs (Lib.decDigits e.1.num.toNat))) ∧ Below W.heap.size W w') := fun W => by
    have h5 := wdigits_calls (e.1.num.toNat + 1) e.1.num.toNat W (by omega) (by omega)
    rw [show ((e.1.num.toNat : Nat) : Int) = e.1.num by omega] at h5
    refine h5.mono ?_
    rintro e' w' ⟨rfl, m, rfl⟩
    exact ⟨rfl, ⟨rfl, rfl, rfl, Nat.le_refl _, fun _ _ => rfl⟩⟩
  have HLy : Hid (∀ (T : List UInt8) (w : World), WAt w0 b T w → Calls Tryz.prog 29 #[.pointer (some ⟨b, 0, none⟩), .string (bs (Lib.decDigits e.1.num.toNat))] w (WPost w0 b T (bs (Lib.decDigits e.1.num.toNat)).data.toList w)) := wlay_any _ (by rw [← size_toList, bs_data]; exact dec_small h0 h1)
  generalize txE e = X at *
  generalize bs (Lib.decDigits e.1.num.toNat) = D at *
  clear hS hk h0 h1
  go_enter Tryz.func30, Tryz.ntmps30
  go_wp2_with fail
  refine (HI.out _).mono ?_
  rintro e' w2 ⟨rfl, hb2⟩
  have H2 : Hid (WAt w0 b T w2 ∧ Kw w w2) := ⟨HN.out.1.next hb2, HN.out.2.1.trans (Kw.of_below hb2)⟩
  clear hb2 HI
  go_wp2_with fail
  refine (HLy.out _ _ H2.out.1).mono ?_
  rintro e' w3 ⟨rfl, hp⟩
  have HP : Hid (WPost w0 b T X w (.returned (.tuple #[])) w3) := by
    rw [HX.out]
    exact WPost.from ⟨rfl, hp⟩ H2.out.2
  clear hp
  go_wp2
  go_end0
  exact HP.out
set_option maxRecDepth 20000 in
set_option maxHeartbeats 4000000 in
theorem wE_name {w0 : World} {b : Nat} (e : Ex) (ka : Option Addr) (kn kc : Nat) (hk : e.1.kind = 2) (hs : (bs e.1.text).size ≤ 100) (T : List UInt8) (w : World) (hS : WAt w0 b T w) :
    Calls Tryz.prog 30 #[.pointer (some ⟨b, 0, none⟩), .agg #[.int .i64 e.1.kind, .int .i64 e.1.num, .string (bs e.1.text), .slice ka kn kc, .int .i64 e.1.pl]] w (WPost w0 b T (txE e) w) := by
  have HN : Hid (WAt w0 b T (w.alloc (.cells #[.int .i64 e.1.kind, .int .i64 e.1.num, .string (bs e.1.text), .slice ka kn kc, .int .i64 e.1.pl] 24)) ∧ Kw w (w.alloc (.cells #[.int .i64 e.1.kind, .int .i64 e.1.num, .string (bs e.1.text), .slice ka kn kc, .int .i64 e.1.pl] 24)) ∧ (w.alloc (.cells #[.int .i64 e.1.kind, .int .i64 e.1.num, .string (bs e.1.text), .slice ka kn kc, .int .i64 e.1.pl] 24)).heap[w.heap.size]? = some (.cells #[.int .i64 e.1.kind, .int .i64 e.1.num, .string (bs e.1.text), .slice ka kn kc, .int .i64 e.1.pl] 24 (0, 0))) := ⟨hS.next (low_alloc _ _), kw_alloc _ _, heap_alloc_new w _⟩
  have q1 : (e.1.kind == 1) = false := by rw [hk]; rfl
  have q2 : (e.1.kind == 2) = true := by rw [hk]; rfl
  have HX : Hid (txE e = (bs e.1.text).data.toList) := by show exB e.1 _ = _; unfold exB; rw [if_neg (by omega), if_pos hk, bs_data]
  have HLy : Hid (∀ (T : List UInt8) (w : World), WAt w0 b T w → Calls Tryz.prog 29 #[.pointer (some ⟨b, 0, none⟩), .string (bs e.1.text)] w (WPost w0 b T (bs e.1.text).data.toList w)) := wlay_any _ hs
  generalize txE e = X at *
  clear hS hk hs
  go_enter Tryz.func30, Tryz.ntmps30
  go_wp2_with fail
  refine (HLy.out _ _ HN.out.1).mono ?_
  rintro e' w3 ⟨rfl, hp⟩
  have HP : Hid (WPost w0 b T X w (.returned (.tuple #[])) w3) := by
    rw [HX.out]
    exact WPost.from ⟨rfl, hp⟩ HN.out.2.1
  clear hp
  go_wp2
  go_end0
  exact HP.out
set_option maxRecDepth 20000 in
set_option maxHeartbeats 4000000 in
theorem wE_text {w0 : World} {b : Nat} (e : Ex) (ka : Option Addr) (kn kc : Nat) (hk : e.1.kind = 3) (hs : (bs e.1.text).size ≤ 60) (T : List UInt8) (w : World) (hS : WAt w0 b T w) :
    Calls Tryz.prog 30 #[.pointer (some ⟨b, 0, none⟩), .agg #[.int .i64 e.1.kind, .int .i64 e.1.num, .string (bs e.1.text), .slice ka kn kc, .int .i64 e.1.pl]] w (WPost w0 b T (txE e) w) := by
  have HN : Hid (WAt w0 b T (w.alloc (.cells #[.int .i64 e.1.kind, .int .i64 e.1.num, .string (bs e.1.text), .slice ka kn kc, .int .i64 e.1.pl] 24)) ∧ Kw w (w.alloc (.cells #[.int .i64 e.1.kind, .int .i64 e.1.num, .string (bs e.1.text), .slice ka kn kc, .int .i64 e.1.pl] 24)) ∧ (w.alloc (.cells #[.int .i64 e.1.kind, .int .i64 e.1.num, .string (bs e.1.text), .slice ka kn kc, .int .i64 e.1.pl] 24)).heap[w.heap.size]? = some (.cells #[.int .i64 e.1.kind, .int .i64 e.1.num, .string (bs e.1.text), .slice ka kn kc, .int .i64 e.1.pl] 24 (0, 0))) := ⟨hS.next (low_alloc _ _), kw_alloc _ _, heap_alloc_new w _⟩
  have q1 : (e.1.kind == 1) = false := by rw [hk]; rfl
  have q2 : (e.1.kind == 2) = false := by rw [hk]; rfl
  have q3 : (e.1.kind == 3) = true := by rw [hk]; rfl
  have hs1 : ((⟨#[34]⟩ : ByteArray) ++ bs e.1.text).size = 1 + (bs e.1.text).size := by rw [ByteArray.size_append]; rfl
  have hs2 : ((⟨#[34]⟩ : ByteArray) ++ bs e.1.text ++ ⟨#[34]⟩).size = 1 + (bs e.1.text).size + 1 := by rw [ByteArray.size_append, hs1]; rfl
  have HX : Hid (txE e = ((⟨#[34]⟩ : ByteArray) ++ bs e.1.text ++ ⟨#[34]⟩).data.toList) := by
    show exB e.1 _ = _
    unfold exB
    rw [if_neg (by omega), if_neg (by omega), if_pos hk, ba_append, ba_append, bs_data]
    simp
  have hc1 : ∀ W, (Op.stringOp .add ⟨#[34]⟩ (bs e.1.text)).run Tryz.prog W = .ok (.string (⟨#[34]⟩ ++ bs e.1.text)) W := fun W => run_string_add_sum W _ _ (by show 1 + _ ≤ _; omega)
  have hc2 : ∀ W, (Op.stringOp .add (⟨#[34]⟩ ++ bs e.1.text) ⟨#[34]⟩).run Tryz.prog W = .ok (.string (⟨#[34]⟩ ++ bs e.1.text ++ ⟨#[34]⟩)) W := fun W => run_string_add_sum W _ _ (by rw [hs1]; show _ + 1 ≤ _; omega)
  have HLy : Hid (∀ (T : List UInt8) (w : World), WAt w0 b T w → Calls Tryz.prog 29 #[.pointer (some ⟨b, 0, none⟩), .string (⟨#[34]⟩ ++ bs e.1.text ++ ⟨#[34]⟩)] w (WPost w0 b T (⟨#[34]⟩ ++ bs e.1.text ++ ⟨#[34]⟩ : ByteArray).data.toList w)) := wlay_any _ (by rw [hs2]; omega)
  generalize txE e = X at *
  generalize (⟨#[34]⟩ : ByteArray) ++ bs e.1.text ++ ⟨#[34]⟩ = D2 at *
  generalize (⟨#[34]⟩ : ByteArray) ++ bs e.1.text = D1 at *
  clear hS hk hs hs1 hs2
  go_enter Tryz.func30, Tryz.ntmps30
  go_wp2_with fail
  refine (HLy.out _ _ HN.out.1).mono ?_
  rintro e' w3 ⟨rfl, hp⟩
  have HP : Hid (WPost w0 b T X w (.returned (.tuple #[])) w3) := by
    rw [HX.out]
    exact WPost.from ⟨rfl, hp⟩ HN.out.2.1
  clear hp
  go_wp2
  go_end0
  exact HP.out
set_option maxRecDepth 20000 in
set_option maxHeartbeats 4000000 in
theorem wE_neg {w0 : World} {b : Nat} (e : Ex) (ka : Option Addr) (kn kc : Nat) (hk : e.1.kind = 4) (g off : Nat) (hka : ka = some ⟨g, off, none⟩) (hkn : 1 ≤ kn) (e1 : Ex) (k1 : Option Addr) (n1 c1 : Nat) (cs1 : CellsAt w0 g off (exCells e1.1 k1 n1 c1)) (H1 : WEx w0 b e1 k1 n1 c1) (hX : txE e = [45] ++ brW (sumB e1.1.kind || decide (e1.1.kind = 7)) (txE e1)) (T : List UInt8) (w : World) (hS : WAt w0 b T w) :
    Calls Tryz.prog 30 #[.pointer (some ⟨b, 0, none⟩), .agg #[.int .i64 e.1.kind, .int .i64 e.1.num, .string (bs e.1.text), .slice ka kn kc, .int .i64 e.1.pl]] w (WPost w0 b T (txE e) w) := by
  have HN : Hid (WAt w0 b T (w.alloc (.cells #[.int .i64 e.1.kind, .int .i64 e.1.num, .string (bs e.1.text), .slice ka kn kc, .int .i64 e.1.pl] 24)) ∧ Kw w (w.alloc (.cells #[.int .i64 e.1.kind, .int .i64 e.1.num, .string (bs e.1.text), .slice ka kn kc, .int .i64 e.1.pl] 24)) ∧ (w.alloc (.cells #[.int .i64 e.1.kind, .int .i64 e.1.num, .string (bs e.1.text), .slice ka kn kc, .int .i64 e.1.pl] 24)).heap[w.heap.size]? = some (.cells #[.int .i64 e.1.kind, .int .i64 e.1.num, .string (bs e.1.text), .slice ka kn kc, .int .i64 e.1.pl] 24 (0, 0))) := ⟨hS.next (low_alloc _ _), kw_alloc _ _, heap_alloc_new w _⟩
  have q1 : (e.1.kind == 1) = false := by rw [hk]; rfl
  have q2 : (e.1.kind == 2) = false := by rw [hk]; rfl
  have q3 : (e.1.kind == 3) = false := by rw [hk]; rfl
  have q4 : (e.1.kind == 4) = true := by rw [hk]; rfl
  have HX : Hid (txE e = (⟨#[45]⟩ : ByteArray).data.toList ++ brW (sumB e1.1.kind || decide (e1.1.kind = 7)) (txE e1)) := hX
  have hk0 : ¬ kn = 0 := by omega
  have HK1 : Hid (∀ (br : Bool) (T : List UInt8) (w : World), WAt w0 b T w → Calls Tryz.prog 14 #[.pointer (some ⟨b, 0, none⟩), .agg #[.int .i64 e1.1.kind, .int .i64 e1.1.num, .string (bs e1.1.text), .slice k1 n1 c1, .int .i64 e1.1.pl], .bool br] w (WPost w0 b T (brW br (txE e1)) w)) := fun br T w h1 => wkid_calls H1 br T w h1
  have HC : Hid (∀ W, Below w0.heap.size w0 W → (W.cell? ⟨g, off, none⟩ = some (.int .i64 e1.1.kind) ∧ W.cell? ⟨g, off + 1, none⟩ = some (.int .i64 e1.1.num) ∧ W.cell? ⟨g, off + 2, none⟩ = some (.string (bs e1.1.text)) ∧ W.cell? ⟨g, off + 3, none⟩ = some (.slice k1 n1 c1) ∧ W.cell? ⟨g, off + 4, none⟩ = some (.int .i64 e1.1.pl))) := fun W hW => five cs1 hW
  have HS1 : Hid (∀ w, Calls Tryz.prog 50 #[.agg #[.int .i64 e1.1.kind, .int .i64 e1.1.num, .string (bs e1.1.text), .slice k1 n1 c1, .int .i64 e1.1.pl]] w fun e w' => e = .returned (.bool (sumB e1.1.kind)) ∧ Below w.heap.size w w') := fun w => sum_calls _ _ _ _ w
  have HP1 : Hid (∀ w, Calls Tryz.prog 51 #[.agg #[.int .i64 e1.1.kind, .int .i64 e1.1.num, .string (bs e1.1.text), .slice k1 n1 c1, .int .i64 e1.1.pl]] w fun e w' => e = .returned (.bool (decide (e1.1.kind = 7))) ∧ Below w.heap.size w w') := fun w => product_calls _ _ _ _ w
  have HLy : Hid (∀ (T : List UInt8) (w : World), WAt w0 b T w → Calls Tryz.prog 29 #[.pointer (some ⟨b, 0, none⟩), .string ⟨#[45]⟩] w (WPost w0 b T (⟨#[45]⟩ : ByteArray).data.toList w)) := wlay_any _ (by decide)
  subst hka
  generalize (⟨#[45]⟩ : ByteArray).data.toList = XS at *
  generalize sumB e1.1.kind = s1 at *
  generalize decide (e1.1.kind = 7) = p1 at *
  generalize txE e1 = X1 at *
  generalize txE e = X at *
  clear hS hk hX cs1 H1 hkn
  obtain ⟨y0, y1, y2, y3, y4⟩ := HC.out _ HN.out.1.low
  go_enter Tryz.func30, Tryz.ntmps30
  go_wp2_with fail
  refine (HS1.out _).mono ?_
  rintro e' w1 ⟨rfl, hb1⟩
  have H1 : Hid (WAt w0 b T w1 ∧ Kw w w1 ∧ w1.heap[w.heap.size]? = some (.cells #[.int .i64 e.1.kind, .int .i64 e.1.num, .string (bs e.1.text), .slice (some ⟨g, off, none⟩) kn kc, .int .i64 e.1.pl] 24 (0, 0))) := ⟨HN.out.1.next hb1, HN.out.2.1.trans (Kw.of_below hb1), (Kw.of_below hb1).cells HN.out.2.2 (by decide) (by decide)⟩
  clear hb1 HN y0 y1 y2 y3 y4 HS1
  have x3 := blk (i := 3) H1.out.2.2 rfl
  obtain ⟨y0, y1, y2, y3, y4⟩ := HC.out _ H1.out.1.low
  go_wp2_with fail
  refine (HP1.out _).mono ?_
  rintro e' w2 ⟨rfl, hb2⟩
  have H2 : Hid (WAt w0 b T w2 ∧ Kw w w2 ∧ w2.heap[w.heap.size]? = some (.cells #[.int .i64 e.1.kind, .int .i64 e.1.num, .string (bs e.1.text), .slice (some ⟨g, off, none⟩) kn kc, .int .i64 e.1.pl] 24 (0, 0))) := ⟨H1.out.1.next hb2, H1.out.2.1.trans (Kw.of_below hb2), (Kw.of_below hb2).cells H1.out.2.2 (by decide) (by decide)⟩
  clear hb2 H1 y0 y1 y2 y3 y4 HP1 x3
  go_wp2_with fail
  refine (HLy.out _ _ H2.out.1).mono ?_
  rintro e' w3 ⟨rfl, hS3, hk3⟩
  have hbx3 := hk3.cells H2.out.2.2 (by decide) (by decide)
  have x3 := blk (i := 3) hbx3 rfl
  obtain ⟨y0, y1, y2, y3, y4⟩ := HC.out _ hS3.low
  have H3 : Hid (WAt w0 b (T ++ XS) w3 ∧ Kw w w3) := ⟨hS3, H2.out.2.1.trans hk3⟩
  clear hS3 hk3 hbx3 H2
  cases s1 <;> (
    go_wp2_with fail
    refine (HK1.out _ _ _ H3.out.1).mono ?_
    rintro e' w4 ⟨rfl, hp⟩
    have HP : Hid (WAt w0 b (T ++ X) w4 ∧ Kw w w4) := by
      rw [HX.out]
      exact (WPost.after (e := .returned (.tuple #[])) ⟨rfl, hp⟩ H3.out.2).2
    clear hp y0 y1 y2 y3 y4 x3
    go_wp2
    go_end0
    exact ⟨rfl, HP.out⟩)
set_option maxRecDepth 20000 in
set_option maxHeartbeats 4000000 in
theorem wE_two5 {w0 : World} {b : Nat} (e : Ex) (ka : Option Addr) (kn kc : Nat) (hk : e.1.kind = 5) (HB : ∀ (w : World) (T : List UInt8), WAt w0 b T w → Calls Tryz.prog 52 #[.pointer (some ⟨b, 0, none⟩), .agg #[.int .i64 e.1.kind, .int .i64 e.1.num, .string (bs e.1.text), .slice ka kn kc, .int .i64 e.1.pl], .string ⟨#[32, 43, 32]⟩] w (WPost w0 b T (txE e) w)) (T : List UInt8) (w : World) (hS : WAt w0 b T w) :
    Calls Tryz.prog 30 #[.pointer (some ⟨b, 0, none⟩), .agg #[.int .i64 e.1.kind, .int .i64 e.1.num, .string (bs e.1.text), .slice ka kn kc, .int .i64 e.1.pl]] w (WPost w0 b T (txE e) w) := by
  have HN : Hid (WAt w0 b T (w.alloc (.cells #[.int .i64 e.1.kind, .int .i64 e.1.num, .string (bs e.1.text), .slice ka kn kc, .int .i64 e.1.pl] 24)) ∧ Kw w (w.alloc (.cells #[.int .i64 e.1.kind, .int .i64 e.1.num, .string (bs e.1.text), .slice ka kn kc, .int .i64 e.1.pl] 24)) ∧ (w.alloc (.cells #[.int .i64 e.1.kind, .int .i64 e.1.num, .string (bs e.1.text), .slice ka kn kc, .int .i64 e.1.pl] 24)).heap[w.heap.size]? = some (.cells #[.int .i64 e.1.kind, .int .i64 e.1.num, .string (bs e.1.text), .slice ka kn kc, .int .i64 e.1.pl] 24 (0, 0))) := ⟨hS.next (low_alloc _ _), kw_alloc _ _, heap_alloc_new w _⟩
  have q1 : (e.1.kind == 1) = false := by rw [hk]; rfl
  have q2 : (e.1.kind == 2) = false := by rw [hk]; rfl
  have q3 : (e.1.kind == 3) = false := by rw [hk]; rfl
  have q4 : (e.1.kind == 4) = false := by rw [hk]; rfl
  have q5 : (e.1.kind == 5) = true := by rw [hk]; rfl
  have HBo : Hid (∀ (w : World) (T : List UInt8), WAt w0 b T w → Calls Tryz.prog 52 #[.pointer (some ⟨b, 0, none⟩), .agg #[.int .i64 e.1.kind, .int .i64 e.1.num, .string (bs e.1.text), .slice ka kn kc, .int .i64 e.1.pl], .string ⟨#[32, 43, 32]⟩] w (WPost w0 b T (txE e) w)) := HB
  generalize txE e = X at *
  clear hS hk HB
  go_enter Tryz.func30, Tryz.ntmps30
  go_wp2_with fail
  refine (HBo.out _ _ HN.out.1).mono ?_
  rintro e' w3 ⟨rfl, hp⟩
  have HP : Hid (WPost w0 b T X w (.returned (.tuple #[])) w3) := WPost.from ⟨rfl, hp⟩ HN.out.2.1
  clear hp
  go_wp2
  go_end0
  exact HP.out
set_option maxRecDepth 20000 in
set_option maxHeartbeats 4000000 in
theorem wE_two6 {w0 : World} {b : Nat} (e : Ex) (ka : Option Addr) (kn kc : Nat) (hk : e.1.kind = 6) (HB : ∀ (w : World) (T : List UInt8), WAt w0 b T w → Calls Tryz.prog 52 #[.pointer (some ⟨b, 0, none⟩), .agg #[.int .i64 e.1.kind, .int .i64 e.1.num, .string (bs e.1.text), .slice ka kn kc, .int .i64 e.1.pl], .string ⟨#[32, 45, 32]⟩] w (WPost w0 b T (txE e) w)) (T : List UInt8) (w : World) (hS : WAt w0 b T w) :
    Calls Tryz.prog 30 #[.pointer (some ⟨b, 0, none⟩), .agg #[.int .i64 e.1.kind, .int .i64 e.1.num, .string (bs e.1.text), .slice ka kn kc, .int .i64 e.1.pl]] w (WPost w0 b T (txE e) w) := by
  have HN : Hid (WAt w0 b T (w.alloc (.cells #[.int .i64 e.1.kind, .int .i64 e.1.num, .string (bs e.1.text), .slice ka kn kc, .int .i64 e.1.pl] 24)) ∧ Kw w (w.alloc (.cells #[.int .i64 e.1.kind, .int .i64 e.1.num, .string (bs e.1.text), .slice ka kn kc, .int .i64 e.1.pl] 24)) ∧ (w.alloc (.cells #[.int .i64 e.1.kind, .int .i64 e.1.num, .string (bs e.1.text), .slice ka kn kc, .int .i64 e.1.pl] 24)).heap[w.heap.size]? = some (.cells #[.int .i64 e.1.kind, .int .i64 e.1.num, .string (bs e.1.text), .slice ka kn kc, .int .i64 e.1.pl] 24 (0, 0))) := ⟨hS.next (low_alloc _ _), kw_alloc _ _, heap_alloc_new w _⟩
  have q1 : (e.1.kind == 1) = false := by rw [hk]; rfl
  have q2 : (e.1.kind == 2) = false := by rw [hk]; rfl
  have q3 : (e.1.kind == 3) = false := by rw [hk]; rfl
  have q4 : (e.1.kind == 4) = false := by rw [hk]; rfl
  have q5 : (e.1.kind == 5) = false := by rw [hk]; rfl
  have q6 : (e.1.kind == 6) = true := by rw [hk]; rfl
  have HBo : Hid (∀ (w : World) (T : List UInt8), WAt w0 b T w → Calls Tryz.prog 52 #[.pointer (some ⟨b, 0, none⟩), .agg #[.int .i64 e.1.kind, .int .i64 e.1.num, .string (bs e.1.text), .slice ka kn kc, .int .i64 e.1.pl], .string ⟨#[32, 45, 32]⟩] w (WPost w0 b T (txE e) w)) := HB
  generalize txE e = X at *
  clear hS hk HB
  go_enter Tryz.func30, Tryz.ntmps30
  go_wp2_with fail
  refine (HBo.out _ _ HN.out.1).mono ?_
  rintro e' w3 ⟨rfl, hp⟩
  have HP : Hid (WPost w0 b T X w (.returned (.tuple #[])) w3) := WPost.from ⟨rfl, hp⟩ HN.out.2.1
  clear hp
  go_wp2
  go_end0
  exact HP.out
set_option maxRecDepth 20000 in
set_option maxHeartbeats 4000000 in
theorem wE_two7 {w0 : World} {b : Nat} (e : Ex) (ka : Option Addr) (kn kc : Nat) (hk : e.1.kind = 7) (HB : ∀ (w : World) (T : List UInt8), WAt w0 b T w → Calls Tryz.prog 52 #[.pointer (some ⟨b, 0, none⟩), .agg #[.int .i64 e.1.kind, .int .i64 e.1.num, .string (bs e.1.text), .slice ka kn kc, .int .i64 e.1.pl], .string ⟨#[32, 42, 32]⟩] w (WPost w0 b T (txE e) w)) (T : List UInt8) (w : World) (hS : WAt w0 b T w) :
    Calls Tryz.prog 30 #[.pointer (some ⟨b, 0, none⟩), .agg #[.int .i64 e.1.kind, .int .i64 e.1.num, .string (bs e.1.text), .slice ka kn kc, .int .i64 e.1.pl]] w (WPost w0 b T (txE e) w) := by
  have HN : Hid (WAt w0 b T (w.alloc (.cells #[.int .i64 e.1.kind, .int .i64 e.1.num, .string (bs e.1.text), .slice ka kn kc, .int .i64 e.1.pl] 24)) ∧ Kw w (w.alloc (.cells #[.int .i64 e.1.kind, .int .i64 e.1.num, .string (bs e.1.text), .slice ka kn kc, .int .i64 e.1.pl] 24)) ∧ (w.alloc (.cells #[.int .i64 e.1.kind, .int .i64 e.1.num, .string (bs e.1.text), .slice ka kn kc, .int .i64 e.1.pl] 24)).heap[w.heap.size]? = some (.cells #[.int .i64 e.1.kind, .int .i64 e.1.num, .string (bs e.1.text), .slice ka kn kc, .int .i64 e.1.pl] 24 (0, 0))) := ⟨hS.next (low_alloc _ _), kw_alloc _ _, heap_alloc_new w _⟩
  have q1 : (e.1.kind == 1) = false := by rw [hk]; rfl
  have q2 : (e.1.kind == 2) = false := by rw [hk]; rfl
  have q3 : (e.1.kind == 3) = false := by rw [hk]; rfl
  have q4 : (e.1.kind == 4) = false := by rw [hk]; rfl
  have q5 : (e.1.kind == 5) = false := by rw [hk]; rfl
  have q6 : (e.1.kind == 6) = false := by rw [hk]; rfl
  have q7 : (e.1.kind == 7) = true := by rw [hk]; rfl
  have HBo : Hid (∀ (w : World) (T : List UInt8), WAt w0 b T w → Calls Tryz.prog 52 #[.pointer (some ⟨b, 0, none⟩), .agg #[.int .i64 e.1.kind, .int .i64 e.1.num, .string (bs e.1.text), .slice ka kn kc, .int .i64 e.1.pl], .string ⟨#[32, 42, 32]⟩] w (WPost w0 b T (txE e) w)) := HB
  generalize txE e = X at *
  clear hS hk HB
  go_enter Tryz.func30, Tryz.ntmps30
  go_wp2_with fail
  refine (HBo.out _ _ HN.out.1).mono ?_
  rintro e' w3 ⟨rfl, hp⟩
  have HP : Hid (WPost w0 b T X w (.returned (.tuple #[])) w3) := WPost.from ⟨rfl, hp⟩ HN.out.2.1
  clear hp
  go_wp2
  go_end0
  exact HP.out
set_option maxRecDepth 20000 in
set_option maxHeartbeats 4000000 in
theorem wE_min {w0 : World} {b : Nat} (e : Ex) (ka : Option Addr) (kn kc : Nat) {o : Bool} {S : Nat → Prop} (N : Nat) (HX0 : ∀ (e : Ex) (ka : Option Addr) (kn kc : Nat), ExAt o S w0 e ka kn → szF e.2 < N → ExR e → WEx w0 b e ka kn kc) (hk : e.1.kind = 8) (hF : FoAt o S w0 e.2 ka kn) (hn : kn ≤ maxLen) (hN : szF e.2 ≤ N) (hR : hdsR e.2 = true) (T : List UInt8) (w : World) (hS : WAt w0 b T w) :
    Calls Tryz.prog 30 #[.pointer (some ⟨b, 0, none⟩), .agg #[.int .i64 e.1.kind, .int .i64 e.1.num, .string (bs e.1.text), .slice ka kn kc, .int .i64 e.1.pl]] w (WPost w0 b T (txE e) w) := by
  have HN : Hid (WAt w0 b T (w.alloc (.cells #[.int .i64 e.1.kind, .int .i64 e.1.num, .string (bs e.1.text), .slice ka kn kc, .int .i64 e.1.pl] 24)) ∧ Kw w (w.alloc (.cells #[.int .i64 e.1.kind, .int .i64 e.1.num, .string (bs e.1.text), .slice ka kn kc, .int .i64 e.1.pl] 24)) ∧ (w.alloc (.cells #[.int .i64 e.1.kind, .int .i64 e.1.num, .string (bs e.1.text), .slice ka kn kc, .int .i64 e.1.pl] 24)).heap[w.heap.size]? = some (.cells #[.int .i64 e.1.kind, .int .i64 e.1.num, .string (bs e.1.text), .slice ka kn kc, .int .i64 e.1.pl] 24 (0, 0))) := ⟨hS.next (low_alloc _ _), kw_alloc _ _, heap_alloc_new w _⟩
  have q1 : (e.1.kind == 1) = false := by rw [hk]; rfl
  have q2 : (e.1.kind == 2) = false := by rw [hk]; rfl
  have q3 : (e.1.kind == 3) = false := by rw [hk]; rfl
  have q4 : (e.1.kind == 4) = false := by rw [hk]; rfl
  have q5 : (e.1.kind == 5) = false := by rw [hk]; rfl
  have q6 : (e.1.kind == 6) = false := by rw [hk]; rfl
  have q7 : (e.1.kind == 7) = false := by rw [hk]; rfl
  have q9 : (e.1.kind == 9) = false := by rw [hk]; rfl
  have HX : Hid (txE e = [109, 105, 110, 40] ++ (allB [44, 32] true (txF e.2) ++ [41])) := by show exB e.1 _ = _; unfold exB; rw [if_neg (by omega), if_neg (by omega), if_neg (by omega), if_neg (by omega), if_pos hk]
  obtain ⟨g, off, hka, hF'⟩ := foAt_addr hF
  unfold maxLen at hn
  have HK : Hid (∀ (e : Ex) (ka : Option Addr) (kn kc : Nat), ExAt o S w0 e ka kn → szF e.2 < N → ExR e → ∀ (T : List UInt8) (w : World), WAt w0 b T w → Calls Tryz.prog 14 #[.pointer (some ⟨b, 0, none⟩), .agg #[.int .i64 e.1.kind, .int .i64 e.1.num, .string (bs e.1.text), .slice ka kn kc, .int .i64 e.1.pl], .bool false] w (WPost w0 b T (txE e) w)) := fun e ka kn kc h1 h2 h3 T w h4 => wkid_calls (HX0 e ka kn kc h1 h2 h3) false T w h4
  have HL0 : Hid (∀ (T : List UInt8) (w : World), WAt w0 b T w → Calls Tryz.prog 29 #[.pointer (some ⟨b, 0, none⟩), .string ⟨#[109, 105, 110, 40]⟩] w (WPost w0 b T [109, 105, 110, 40] w)) := wlay_any ⟨#[109, 105, 110, 40]⟩ (by decide)
  have HL1 : Hid (∀ (T : List UInt8) (w : World), WAt w0 b T w → Calls Tryz.prog 29 #[.pointer (some ⟨b, 0, none⟩), .string ⟨#[44, 32]⟩] w (WPost w0 b T [44, 32] w)) := wlay_any ⟨#[44, 32]⟩ (by decide)
  have HL2 : Hid (∀ (T : List UInt8) (w : World), WAt w0 b T w → Calls Tryz.prog 29 #[.pointer (some ⟨b, 0, none⟩), .string ⟨#[41]⟩] w (WPost w0 b T [41] w)) := wlay_any ⟨#[41]⟩ (by decide)
  have H0 : Hid (FoAt o S w0 e.2 (some ⟨g, off + 0 * 5, none⟩) (kn - 0) ∧ szF e.2 ≤ N ∧ hdsR e.2 = true ∧ (T ++ [109, 105, 110, 40]) ++ allB [44, 32] (decide ((0 : Nat) = 0)) (txF e.2) = (T ++ [109, 105, 110, 40]) ++ allB [44, 32] true (txF e.2)) := ⟨hF', hN, hR, rfl⟩
  generalize allB [44, 32] true (txF e.2) = XA at *
  generalize txE e = X at *
  clear hS hk hF hF' hN hR HX0
  go_enter Tryz.func30, Tryz.ntmps30
  go_wp2_with fail
  refine (HL0.out _ _ HN.out.1).mono ?_
  rintro e' w2 ⟨rfl, hS2, hk2⟩
  have H2 : Hid (WAt w0 b (T ++ [109, 105, 110, 40]) w2 ∧ Kw w w2 ∧ w2.heap[w.heap.size]? = some (.cells #[.int .i64 e.1.kind, .int .i64 e.1.num, .string (bs e.1.text), .slice ka kn kc, .int .i64 e.1.pl] 24 (0, 0))) := ⟨hS2, HN.out.2.1.trans hk2, hk2.cells HN.out.2.2 (by decide) (by decide)⟩
  clear hS2 hk2 HN HL0
  go_wp2_with fail
  go_loopg [8] kn (fun k iv wr => ∃ (G : Fo) (i : Nat) (T' : List UInt8), iv = .int .i64 (i : Int) ∧ i + k = kn ∧ Hid (FoAt o S w0 G (some ⟨g, off + i * 5, none⟩) (kn - i) ∧ szF G ≤ N ∧ hdsR G = true ∧ T' ++ allB [44, 32] (decide (i = 0)) (txF G) = (T ++ [109, 105, 110, 40]) ++ XA) ∧ Hid (WAt w0 b T' wr ∧ Kw w wr ∧ wr.heap[w.heap.size]? = some (.cells #[.int .i64 e.1.kind, .int .i64 e.1.num, .string (bs e.1.text), .slice ka kn kc, .int .i64 e.1.pl] 24 (0, 0))))
  case atStart => exact ⟨e.2, 0, T ++ [109, 105, 110, 40], rfl, by omega, H0.out, H2.out⟩
  case round =>
    clear H0 H2
    obtain ⟨G, i, T', rfl, hik, HG, HT⟩ := hrel
    have x3 := blk (i := 3) HT.out.2.2 rfl
    by_cases hi : i < kn
    · have hdi : decide ((i : Int) < (kn : Int)) = true := by simp; omega
      obtain ⟨b0, o0, h2, k2, r2, ka2, kc2, kk2, rfl, -, hok, hkc, ⟨c0, c1, c2, c3, c4⟩, hk2, hr2⟩ := foAt_head HG.out.1 hi
      have hka2 := hka (by omega)
      subst hka2
      have hR2 := HG.out.2.2.1
      have hN2 := HG.out.2.1
      simp only [hdsR, Bool.and_eq_true] at hR2
      simp only [szF] at hN2
      have HLE : Hid (∀ (T : List UInt8) (w : World), WAt w0 b T w → Calls Tryz.prog 14 #[.pointer (some ⟨b, 0, none⟩), .agg #[.int .i64 h2.kind, .int .i64 h2.num, .string (bs h2.text), .slice ka2 kc2 kk2, .int .i64 h2.pl], .bool false] w (WPost w0 b T (txE (h2, k2)) w)) := fun T w h4 => HK.out (h2, k2) ka2 kc2 kk2 ⟨hok, hkc, hk2⟩ (by show szF k2 < N; omega) ⟨hR2.1, hR2.2.1⟩ T w h4
      have HNx : Hid (FoAt o S w0 r2 (some ⟨g, off + (i + 1) * 5, none⟩) (kn - (i + 1)) ∧ szF r2 ≤ N ∧ hdsR r2 = true ∧ T' ++ ((if i = 0 then [] else [44, 32]) ++ (txE (h2, k2) ++ allB [44, 32] false (txF r2))) = (T ++ [109, 105, 110, 40]) ++ XA) := by
        refine ⟨hr2, by omega, hR2.2.2, ?_⟩
        have := HG.out.2.2.2
        simp only [txF, allB] at this
        rw [← this]
        by_cases h0 : i = 0 <;> simp [h0, txE]
      have HC5 : Hid (CellsAt w0 g (off + i * 5) (exCells h2 ka2 kc2 kk2)) := fun j u hj => by
        have hj5 : j < 5 := (List.getElem?_eq_some_iff.1 hj).1
        have : j = 0 ∨ j = 1 ∨ j = 2 ∨ j = 3 ∨ j = 4 := by omega
        rcases this with rfl | rfl | rfl | rfl | rfl <;> (cases hj; assumption)
      clear HG hok hkc hk2 hr2 hR2 hN2 c0 c1 c2 c3 c4
      by_cases h0 : i = 0
      · have hgt : decide ((0 : Int) < (i : Int)) = false := by simp; omega
        have hgn : ¬ 0 < i := by omega
        have HNz : Hid (T' ++ (txE (h2, k2) ++ allB [44, 32] false (txF r2)) = (T ++ [109, 105, 110, 40]) ++ XA) := by have := HNx.out.2.2.2; rw [if_pos h0] at this; exact this
        obtain ⟨y0, y1, y2, y3, y4⟩ := five HC5.out HT.out.1.low
        clear h0
        go_wp2_with fail
        refine (HLE.out T' _ HT.out.1).mono ?_
        rintro e' w3 ⟨rfl, hS3, hk3⟩
        have HT3 : Hid (WAt w0 b (T' ++ txE (h2, k2)) w3 ∧ Kw w w3 ∧ w3.heap[w.heap.size]? = some (.cells #[.int .i64 e.1.kind, .int .i64 e.1.num, .string (bs e.1.text), .slice (some ⟨g, off, none⟩) kn kc, .int .i64 e.1.pl] 24 (0, 0))) := ⟨hS3, HT.out.2.1.trans hk3, hk3.cells HT.out.2.2 (by decide) (by decide)⟩
        clear hS3 hk3 HT y0 y1 y2 y3 y4 x3
        go_wp2_with fail
        go_roundg (gk - 1)
        case measure => omega
        case rel => exact ⟨r2, i + 1, T' ++ txE (h2, k2), by go_num, by omega, ⟨HNx.out.1, HNx.out.2.1, HNx.out.2.2.1, by rw [decide_eq_false (by omega), List.append_assoc]; exact HNz.out⟩, HT3.out⟩
      · have hgt : decide ((0 : Int) < (i : Int)) = true := by simp; omega
        have HNz : Hid (T' ++ ([44, 32] ++ (txE (h2, k2) ++ allB [44, 32] false (txF r2))) = (T ++ [109, 105, 110, 40]) ++ XA) := by have := HNx.out.2.2.2; rw [if_neg h0] at this; exact this
        go_wp2_with fail
        refine (HL1.out T' _ HT.out.1).mono ?_
        rintro e' w3 ⟨rfl, hS3, hk3⟩
        have HT3 : Hid (WAt w0 b (T' ++ [44, 32]) w3 ∧ Kw w w3 ∧ w3.heap[w.heap.size]? = some (.cells #[.int .i64 e.1.kind, .int .i64 e.1.num, .string (bs e.1.text), .slice (some ⟨g, off, none⟩) kn kc, .int .i64 e.1.pl] 24 (0, 0))) := ⟨hS3, HT.out.2.1.trans hk3, hk3.cells HT.out.2.2 (by decide) (by decide)⟩
        clear hS3 hk3 HT x3
        have x3 := blk (i := 3) HT3.out.2.2 rfl
        obtain ⟨y0, y1, y2, y3, y4⟩ := five HC5.out HT3.out.1.low
        go_wp2_with fail
        refine (HLE.out _ _ HT3.out.1).mono ?_
        rintro e' w4 ⟨rfl, hS4, hk4⟩
        have HT4 : Hid (WAt w0 b (T' ++ [44, 32] ++ txE (h2, k2)) w4 ∧ Kw w w4 ∧ w4.heap[w.heap.size]? = some (.cells #[.int .i64 e.1.kind, .int .i64 e.1.num, .string (bs e.1.text), .slice (some ⟨g, off, none⟩) kn kc, .int .i64 e.1.pl] 24 (0, 0))) := ⟨hS4, HT3.out.2.1.trans hk4, hk4.cells HT3.out.2.2 (by decide) (by decide)⟩
        clear hS4 hk4 HT3 x3 y0 y1 y2 y3 y4
        go_wp2_with fail
        go_roundg (gk - 1)
        case measure => omega
        case rel => exact ⟨r2, i + 1, T' ++ [44, 32] ++ txE (h2, k2), by go_num, by omega, ⟨HNx.out.1, HNx.out.2.1, HNx.out.2.2.1, by rw [decide_eq_false (by omega), List.append_assoc, List.append_assoc]; exact HNz.out⟩, HT4.out⟩
    · have hdi : decide ((i : Int) < (kn : Int)) = false := by simp; omega
      have HS9 : Hid (WAt w0 b (T ++ [109, 105, 110, 40] ++ XA) wr ∧ Kw w wr) := by
        obtain ⟨h1, _, _, h4⟩ := HG.out
        rw [show kn - i = 0 by omega] at h1
        have hG : G = .nil := by
          cases G with
          | nil => rfl
          | node b0 o0 h2 k r => obtain ⟨_, _, _, _, _, m, hm, _⟩ := h1; omega
        subst hG
        simp only [txF, allB, List.append_nil] at h4
        rw [h4] at HT
        exact ⟨HT.out.1, HT.out.2.1⟩
      clear HG HT
      go_wp2_with fail
      refine (HL2.out _ _ HS9.out.1).mono ?_
      rintro e' w5 ⟨rfl, hp⟩
      have HP : Hid (WAt w0 b (T ++ X) w5 ∧ Kw w w5) := by
        rw [HX.out]
        have := (WPost.after (e := .returned (.tuple #[])) (w := w) (w2 := wr) ⟨rfl, hp⟩ HS9.out.2).2
        refine ⟨?_, this.2⟩
        have h7 := this.1
        simpa using h7
      clear hp
      go_wp2
      go_end0
      exact ⟨rfl, HP.out⟩
set_option maxRecDepth 20000 in
set_option maxHeartbeats 4000000 in
theorem wE_max {w0 : World} {b : Nat} (e : Ex) (ka : Option Addr) (kn kc : Nat) {o : Bool} {S : Nat → Prop} (N : Nat) (HX0 : ∀ (e : Ex) (ka : Option Addr) (kn kc : Nat), ExAt o S w0 e ka kn → szF e.2 < N → ExR e → WEx w0 b e ka kn kc) (hk : e.1.kind = 9) (hF : FoAt o S w0 e.2 ka kn) (hn : kn ≤ maxLen) (hN : szF e.2 ≤ N) (hR : hdsR e.2 = true) (T : List UInt8) (w : World) (hS : WAt w0 b T w) :
    Calls Tryz.prog 30 #[.pointer (some ⟨b, 0, none⟩), .agg #[.int .i64 e.1.kind, .int .i64 e.1.num, .string (bs e.1.text), .slice ka kn kc, .int .i64 e.1.pl]] w (WPost w0 b T (txE e) w) := by
  have HN : Hid (WAt w0 b T (w.alloc (.cells #[.int .i64 e.1.kind, .int .i64 e.1.num, .string (bs e.1.text), .slice ka kn kc, .int .i64 e.1.pl] 24)) ∧ Kw w (w.alloc (.cells #[.int .i64 e.1.kind, .int .i64 e.1.num, .string (bs e.1.text), .slice ka kn kc, .int .i64 e.1.pl] 24)) ∧ (w.alloc (.cells #[.int .i64 e.1.kind, .int .i64 e.1.num, .string (bs e.1.text), .slice ka kn kc, .int .i64 e.1.pl] 24)).heap[w.heap.size]? = some (.cells #[.int .i64 e.1.kind, .int .i64 e.1.num, .string (bs e.1.text), .slice ka kn kc, .int .i64 e.1.pl] 24 (0, 0))) := ⟨hS.next (low_alloc _ _), kw_alloc _ _, heap_alloc_new w _⟩
  have q1 : (e.1.kind == 1) = false := by rw [hk]; rfl
  have q2 : (e.1.kind == 2) = false := by rw [hk]; rfl
  have q3 : (e.1.kind == 3) = false := by rw [hk]; rfl
  have q4 : (e.1.kind == 4) = false := by rw [hk]; rfl
  have q5 : (e.1.kind == 5) = false := by rw [hk]; rfl
  have q6 : (e.1.kind == 6) = false := by rw [hk]; rfl
  have q7 : (e.1.kind == 7) = false := by rw [hk]; rfl
  have q9 : (e.1.kind == 9) = true := by rw [hk]; rfl
  have HX : Hid (txE e = [109, 97, 120, 40] ++ (allB [44, 32] true (txF e.2) ++ [41])) := by show exB e.1 _ = _; unfold exB; rw [if_neg (by omega), if_neg (by omega), if_neg (by omega), if_neg (by omega), if_neg (by omega), if_pos hk]
  obtain ⟨g, off, hka, hF'⟩ := foAt_addr hF
  unfold maxLen at hn
  have HK : Hid (∀ (e : Ex) (ka : Option Addr) (kn kc : Nat), ExAt o S w0 e ka kn → szF e.2 < N → ExR e → ∀ (T : List UInt8) (w : World), WAt w0 b T w → Calls Tryz.prog 14 #[.pointer (some ⟨b, 0, none⟩), .agg #[.int .i64 e.1.kind, .int .i64 e.1.num, .string (bs e.1.text), .slice ka kn kc, .int .i64 e.1.pl], .bool false] w (WPost w0 b T (txE e) w)) := fun e ka kn kc h1 h2 h3 T w h4 => wkid_calls (HX0 e ka kn kc h1 h2 h3) false T w h4
  have HL0 : Hid (∀ (T : List UInt8) (w : World), WAt w0 b T w → Calls Tryz.prog 29 #[.pointer (some ⟨b, 0, none⟩), .string ⟨#[109, 97, 120, 40]⟩] w (WPost w0 b T [109, 97, 120, 40] w)) := wlay_any ⟨#[109, 97, 120, 40]⟩ (by decide)
  have HL1 : Hid (∀ (T : List UInt8) (w : World), WAt w0 b T w → Calls Tryz.prog 29 #[.pointer (some ⟨b, 0, none⟩), .string ⟨#[44, 32]⟩] w (WPost w0 b T [44, 32] w)) := wlay_any ⟨#[44, 32]⟩ (by decide)
  have HL2 : Hid (∀ (T : List UInt8) (w : World), WAt w0 b T w → Calls Tryz.prog 29 #[.pointer (some ⟨b, 0, none⟩), .string ⟨#[41]⟩] w (WPost w0 b T [41] w)) := wlay_any ⟨#[41]⟩ (by decide)
  have H0 : Hid (FoAt o S w0 e.2 (some ⟨g, off + 0 * 5, none⟩) (kn - 0) ∧ szF e.2 ≤ N ∧ hdsR e.2 = true ∧ (T ++ [109, 97, 120, 40]) ++ allB [44, 32] (decide ((0 : Nat) = 0)) (txF e.2) = (T ++ [109, 97, 120, 40]) ++ allB [44, 32] true (txF e.2)) := ⟨hF', hN, hR, rfl⟩
  generalize allB [44, 32] true (txF e.2) = XA at *
  generalize txE e = X at *
  clear hS hk hF hF' hN hR HX0
  go_enter Tryz.func30, Tryz.ntmps30
  go_wp2_with fail
  refine (HL0.out _ _ HN.out.1).mono ?_
  rintro e' w2 ⟨rfl, hS2, hk2⟩
  have H2 : Hid (WAt w0 b (T ++ [109, 97, 120, 40]) w2 ∧ Kw w w2 ∧ w2.heap[w.heap.size]? = some (.cells #[.int .i64 e.1.kind, .int .i64 e.1.num, .string (bs e.1.text), .slice ka kn kc, .int .i64 e.1.pl] 24 (0, 0))) := ⟨hS2, HN.out.2.1.trans hk2, hk2.cells HN.out.2.2 (by decide) (by decide)⟩
  clear hS2 hk2 HN HL0
  go_wp2_with fail
  go_loopg [8] kn (fun k iv wr => ∃ (G : Fo) (i : Nat) (T' : List UInt8), iv = .int .i64 (i : Int) ∧ i + k = kn ∧ Hid (FoAt o S w0 G (some ⟨g, off + i * 5, none⟩) (kn - i) ∧ szF G ≤ N ∧ hdsR G = true ∧ T' ++ allB [44, 32] (decide (i = 0)) (txF G) = (T ++ [109, 97, 120, 40]) ++ XA) ∧ Hid (WAt w0 b T' wr ∧ Kw w wr ∧ wr.heap[w.heap.size]? = some (.cells #[.int .i64 e.1.kind, .int .i64 e.1.num, .string (bs e.1.text), .slice ka kn kc, .int .i64 e.1.pl] 24 (0, 0))))
  case atStart => exact ⟨e.2, 0, T ++ [109, 97, 120, 40], rfl, by omega, H0.out, H2.out⟩
  case round =>
    clear H0 H2
    obtain ⟨G, i, T', rfl, hik, HG, HT⟩ := hrel
    have x3 := blk (i := 3) HT.out.2.2 rfl
    by_cases hi : i < kn
    · have hdi : decide ((i : Int) < (kn : Int)) = true := by simp; omega
      obtain ⟨b0, o0, h2, k2, r2, ka2, kc2, kk2, rfl, -, hok, hkc, ⟨c0, c1, c2, c3, c4⟩, hk2, hr2⟩ := foAt_head HG.out.1 hi
      have hka2 := hka (by omega)
      subst hka2
      have hR2 := HG.out.2.2.1
      have hN2 := HG.out.2.1
      simp only [hdsR, Bool.and_eq_true] at hR2
      simp only [szF] at hN2
      have HLE : Hid (∀ (T : List UInt8) (w : World), WAt w0 b T w → Calls Tryz.prog 14 #[.pointer (some ⟨b, 0, none⟩), .agg #[.int .i64 h2.kind, .int .i64 h2.num, .string (bs h2.text), .slice ka2 kc2 kk2, .int .i64 h2.pl], .bool false] w (WPost w0 b T (txE (h2, k2)) w)) := fun T w h4 => HK.out (h2, k2) ka2 kc2 kk2 ⟨hok, hkc, hk2⟩ (by show szF k2 < N; omega) ⟨hR2.1, hR2.2.1⟩ T w h4
      have HNx : Hid (FoAt o S w0 r2 (some ⟨g, off + (i + 1) * 5, none⟩) (kn - (i + 1)) ∧ szF r2 ≤ N ∧ hdsR r2 = true ∧ T' ++ ((if i = 0 then [] else [44, 32]) ++ (txE (h2, k2) ++ allB [44, 32] false (txF r2))) = (T ++ [109, 97, 120, 40]) ++ XA) := by
        refine ⟨hr2, by omega, hR2.2.2, ?_⟩
        have := HG.out.2.2.2
        simp only [txF, allB] at this
        rw [← this]
        by_cases h0 : i = 0 <;> simp [h0, txE]
      have HC5 : Hid (CellsAt w0 g (off + i * 5) (exCells h2 ka2 kc2 kk2)) := fun j u hj => by
        have hj5 : j < 5 := (List.getElem?_eq_some_iff.1 hj).1
        have : j = 0 ∨ j = 1 ∨ j = 2 ∨ j = 3 ∨ j = 4 := by omega
        rcases this with rfl | rfl | rfl | rfl | rfl <;> (cases hj; assumption)
      clear HG hok hkc hk2 hr2 hR2 hN2 c0 c1 c2 c3 c4
      by_cases h0 : i = 0
      · have hgt : decide ((0 : Int) < (i : Int)) = false := by simp; omega
        have hgn : ¬ 0 < i := by omega
        have HNz : Hid (T' ++ (txE (h2, k2) ++ allB [44, 32] false (txF r2)) = (T ++ [109, 97, 120, 40]) ++ XA) := by have := HNx.out.2.2.2; rw [if_pos h0] at this; exact this
        obtain ⟨y0, y1, y2, y3, y4⟩ := five HC5.out HT.out.1.low
        clear h0
        go_wp2_with fail
        refine (HLE.out T' _ HT.out.1).mono ?_
        rintro e' w3 ⟨rfl, hS3, hk3⟩
        have HT3 : Hid (WAt w0 b (T' ++ txE (h2, k2)) w3 ∧ Kw w w3 ∧ w3.heap[w.heap.size]? = some (.cells #[.int .i64 e.1.kind, .int .i64 e.1.num, .string (bs e.1.text), .slice (some ⟨g, off, none⟩) kn kc, .int .i64 e.1.pl] 24 (0, 0))) := ⟨hS3, HT.out.2.1.trans hk3, hk3.cells HT.out.2.2 (by decide) (by decide)⟩
        clear hS3 hk3 HT y0 y1 y2 y3 y4 x3
        go_wp2_with fail
        go_roundg (gk - 1)
        case measure => omega
        case rel => exact ⟨r2, i + 1, T' ++ txE (h2, k2), by go_num, by omega, ⟨HNx.out.1, HNx.out.2.1, HNx.out.2.2.1, by rw [decide_eq_false (by omega), List.append_assoc]; exact HNz.out⟩, HT3.out⟩
      · have hgt : decide ((0 : Int) < (i : Int)) = true := by simp; omega
        have HNz : Hid (T' ++ ([44, 32] ++ (txE (h2, k2) ++ allB [44, 32] false (txF r2))) = (T ++ [109, 97, 120, 40]) ++ XA) := by have := HNx.out.2.2.2; rw [if_neg h0] at this; exact this
        go_wp2_with fail
        refine (HL1.out T' _ HT.out.1).mono ?_
        rintro e' w3 ⟨rfl, hS3, hk3⟩
        have HT3 : Hid (WAt w0 b (T' ++ [44, 32]) w3 ∧ Kw w w3 ∧ w3.heap[w.heap.size]? = some (.cells #[.int .i64 e.1.kind, .int .i64 e.1.num, .string (bs e.1.text), .slice (some ⟨g, off, none⟩) kn kc, .int .i64 e.1.pl] 24 (0, 0))) := ⟨hS3, HT.out.2.1.trans hk3, hk3.cells HT.out.2.2 (by decide) (by decide)⟩
        clear hS3 hk3 HT x3
        have x3 := blk (i := 3) HT3.out.2.2 rfl
        obtain ⟨y0, y1, y2, y3, y4⟩ := five HC5.out HT3.out.1.low
        go_wp2_with fail
        refine (HLE.out _ _ HT3.out.1).mono ?_
        rintro e' w4 ⟨rfl, hS4, hk4⟩
        have HT4 : Hid (WAt w0 b (T' ++ [44, 32] ++ txE (h2, k2)) w4 ∧ Kw w w4 ∧ w4.heap[w.heap.size]? = some (.cells #[.int .i64 e.1.kind, .int .i64 e.1.num, .string (bs e.1.text), .slice (some ⟨g, off, none⟩) kn kc, .int .i64 e.1.pl] 24 (0, 0))) := ⟨hS4, HT3.out.2.1.trans hk4, hk4.cells HT3.out.2.2 (by decide) (by decide)⟩
        clear hS4 hk4 HT3 x3 y0 y1 y2 y3 y4
        go_wp2_with fail
        go_roundg (gk - 1)
        case measure => omega
        case rel => exact ⟨r2, i + 1, T' ++ [44, 32] ++ txE (h2, k2), by go_num, by omega, ⟨HNx.out.1, HNx.out.2.1, HNx.out.2.2.1, by rw [decide_eq_false (by omega), List.append_assoc, List.append_assoc]; exact HNz.out⟩, HT4.out⟩
    · have hdi : decide ((i : Int) < (kn : Int)) = false := by simp; omega
      have HS9 : Hid (WAt w0 b (T ++ [109, 97, 120, 40] ++ XA) wr ∧ Kw w wr) := by
        obtain ⟨h1, _, _, h4⟩ := HG.out
        rw [show kn - i = 0 by omega] at h1
        have hG : G = .nil := by
          cases G with
          | nil => rfl
          | node b0 o0 h2 k r => obtain ⟨_, _, _, _, _, m, hm, _⟩ := h1; omega
        subst hG
        simp only [txF, allB, List.append_nil] at h4
        rw [h4] at HT
        exact ⟨HT.out.1, HT.out.2.1⟩
      clear HG HT
      go_wp2_with fail
      refine (HL2.out _ _ HS9.out.1).mono ?_
      rintro e' w5 ⟨rfl, hp⟩
      have HP : Hid (WAt w0 b (T ++ X) w5 ∧ Kw w w5) := by
        rw [HX.out]
        have := (WPost.after (e := .returned (.tuple #[])) (w := w) (w2 := wr) ⟨rfl, hp⟩ HS9.out.2).2
        refine ⟨?_, this.2⟩
        have h7 := this.1
        simpa using h7
      clear hp
      go_wp2
      go_end0
      exact ⟨rfl, HP.out⟩
theorem br_firm (k : Int) (x : Kt) (hk : k = 5 ∨ k = 6 ∨ k = 7) : brB (firmB k) x = brW (decide (k = 7) && sumB x.1) x.2 ∧ brB (firmB k + 1) x = brW (sumB x.1 || (decide (k = 7) && decide (x.1 = 7))) x.2 := by
  unfold brB brW firmB sumB
  by_cases h5 : x.1 = 5 <;> by_cases h6 : x.1 = 6 <;> by_cases h7 : x.1 = 7 <;> rcases hk with rfl | rfl | rfl <;> first | omega | simp [h5, h6, h7]
theorem br_neg (x : Kt) : brB 2 x = brW (sumB x.1 || decide (x.1 = 7)) x.2 := by
  unfold brB brW firmB sumB
  by_cases h5 : x.1 = 5 <;> by_cases h6 : x.1 = 6 <;> by_cases h7 : x.1 = 7 <;> first | omega | simp [h5, h6, h7]
/-- An expression is written. -/
theorem wexpr_calls {w0 : World} {b : Nat} {o : Bool} {S : Nat → Prop} : ∀ (N : Nat) (e : Ex) (ka : Option Addr) (kn kc : Nat), ExAt o S w0 e ka kn → szF e.2 < N → ExR e → WEx w0 b e ka kn kc
  | 0, _, _, _, _, _, h, _ => by omega
  | N + 1, e, ka, kn, kc, hE, hN, hR => by
    have IH := wexpr_calls (w0 := w0) (b := b) (o := o) (S := S) N
    intro T w hS
    obtain ⟨hh, hk⟩ := hR
    have hlen := foAt_len hE.kids
    unfold hdRight at hh
    split at hh
    · rename_i h1
      simp only [Bool.and_eq_true, decide_eq_true_eq] at hh
      exact wE_num e ka kn kc h1 hh.1 hh.2.1 T w hS
    split at hh
    · rename_i _ h2
      simp only [Bool.and_eq_true, decide_eq_true_eq] at hh
      exact wE_name e ka kn kc h2 (name_small hh.2.1) T w hS
    split at hh
    · rename_i _ _ h3
      simp only [Bool.and_eq_true, decide_eq_true_eq] at hh
      refine wE_text e ka kn kc h3 ?_ T w hS
      have h9 := hh.2.1
      unfold txB at h9
      simp only [Bool.and_eq_true, decide_eq_true_eq] at h9
      rw [← size_toList, bs_data]
      omega
    split at hh
    · rename_i n1 n2 n3 h4
      simp only [Bool.and_eq_true, decide_eq_true_eq] at hh
      obtain ⟨h, F⟩ := e
      cases F with
      | nil => have := hh.2.2; simp [lenF] at this
      | node b0 o0 h1 k1 r1 =>
        obtain ⟨g, off, k2, n2', c2, m, hm, ha, _, _, hok, hkn, hc, hkk, _⟩ := hE.kids
        simp only [hdsR, Bool.and_eq_true] at hk
        simp only [szF] at hN
        refine wE_neg (h, .node b0 o0 h1 k1 r1) ka kn kc h4 g off ha (by omega) (h1, k1) k2 n2' c2 hc (IH (h1, k1) k2 n2' c2 ⟨hok, hkn, hkk⟩ (by show szF k1 < N; omega) ⟨hk.1, hk.2.1⟩) ?_ T w hS
        show exB h _ = _
        unfold exB
        rw [if_neg n1, if_neg n2, if_neg n3, if_pos h4, br_neg]
        simp [kt, txF, txE]
    split at hh
    · rename_i n1 n2 n3 n4 h5
      have h5' : e.1.kind = 5 ∨ e.1.kind = 6 ∨ e.1.kind = 7 := h5
      simp only [Bool.and_eq_true, decide_eq_true_eq] at hh
      have HB : ∀ (sg : ByteArray), sg.size ≤ 100 → sg.data.toList = [32] ++ (sgnB e.1.kind ++ [32]) → ∀ (w : World) (T : List UInt8), WAt w0 b T w → Calls Tryz.prog 52 #[.pointer (some ⟨b, 0, none⟩), .agg #[.int .i64 e.1.kind, .int .i64 e.1.num, .string (bs e.1.text), .slice ka kn kc, .int .i64 e.1.pl], .string sg] w (WPost w0 b T (txE e) w) := fun sg hsg hsl w' T' hS' => by
        obtain ⟨h, F⟩ := e
        cases F with
        | nil => have := hh.2.2; simp [lenF] at this
        | node b0 o0 h1 k1 r1 =>
          cases r1 with
          | nil => have := hh.2.2; simp [lenF] at this
          | node b1 o1 h2 k2 r2 =>
            obtain ⟨g, off, ka1, kn1, kc1, m, hm, ha, _, _, hok, hkn, hc, hkk, hrr⟩ := hE.kids
            obtain ⟨g', off', ka2, kn2, kc2, m2, hm2, ha2, _, _, hok2, hkn2, hc2, hkk2, _⟩ := hrr
            cases ha2
            subst ha
            simp only [hdsR, Bool.and_eq_true] at hk
            simp only [szF] at hN
            have hb := wtwo_calls (w0 := w0) (b := b) h g off kn kc (h1, k1) (h2, k2) ka1 ka2 kn1 kc1 kn2 kc2 (by omega) hc hc2 (IH (h1, k1) ka1 kn1 kc1 ⟨hok, hkn, hkk⟩ (by show szF k1 < N; omega) ⟨hk.1, hk.2.1⟩) (IH (h2, k2) ka2 kn2 kc2 ⟨hok2, hkn2, hkk2⟩ (by show szF k2 < N; omega) ⟨hk.2.2.1, hk.2.2.2.1⟩) sg hsg T' w' hS'
            have hX : txE (h, .node b0 o0 h1 k1 (.node b1 o1 h2 k2 r2)) = brW (decide (h.kind = 7) && sumB h1.kind) (txE (h1, k1)) ++ (sg.data.toList ++ brW (sumB h2.kind || (decide (h.kind = 7) && decide (h2.kind = 7))) (txE (h2, k2))) := by
              have h5'' : h.kind = 5 ∨ h.kind = 6 ∨ h.kind = 7 := h5'
              have hsl' : sg.data.toList = [32] ++ (sgnB h.kind ++ [32]) := hsl
              show exB h _ = _
              unfold exB
              rw [if_neg n1, if_neg n2, if_neg n3, if_neg n4, if_neg (by omega), if_neg (by omega), (br_firm h.kind _ h5'').1, (br_firm h.kind _ h5'').2, hsl']
              simp [kt, txF, txE]
            rw [hX]
            exact hb
      rcases h5' with h5 | h6 | h7
      · exact wE_two5 e ka kn kc h5 (HB ⟨#[32, 43, 32]⟩ (by decide) (by rw [h5]; rfl)) T w hS
      · exact wE_two6 e ka kn kc h6 (HB ⟨#[32, 45, 32]⟩ (by decide) (by rw [h6]; rfl)) T w hS
      · exact wE_two7 e ka kn kc h7 (HB ⟨#[32, 42, 32]⟩ (by decide) (by rw [h7]; rfl)) T w hS
    split at hh
    · rename_i n1 n2 n3 n4 n5 h8
      have h8' : e.1.kind = 8 ∨ e.1.kind = 9 := h8
      rcases h8' with h8 | h9
      · exact wE_min e ka kn kc N (fun e ka kn kc a1 a2 a3 => IH e ka kn kc a1 a2 a3) h8 hE.kids hE.few (by omega) hk T w hS
      · exact wE_max e ka kn kc N (fun e ka kn kc a1 a2 a3 => IH e ka kn kc a1 a2 a3) h9 hE.kids hE.few (by omega) hk T w hS
    · cases hh

end Go.Proofs.YtpeldiibjhffiaaGreatDoor
namespace Go.Proofs.YtpeldiibjhffiaaGreatDoor
open Go.RowKit Go.Deep

section
variable {P : Program} {ops : Array Oper} {Q : Exit → Act → World → Prop} {md : Region.Mode} {S : World → Prop} {x : Nat}
/-- As the law of one load that is taken first, where no operation is exempt. -/
theorem wpAnyX_first0 {i : Nat} {oi : Oper} {v : Value} (hi : ops[i]? = some oi) (hsel : ∀ (j : Nat) (o : Oper) cs b, ops[j]? = some o → o.op ≠ .select cs b)
    (hQ : ∀ c a w, Q (.panic c) (a.put oi.dst v) w → Q (.panic c) a w) (hx : ops.size ≤ x) :
    ∀ (fuel : Nat) (listed : Array Bool) (a : Act) (w : World),
      (∀ j oj, ops[j]? = some oj → j ≠ i → listed.getD j true = false → (∀ e ∈ oj.after, Region.binds md e = true → e.on ≠ i) → oi.apart ops oj = true) →
      i ∈ Region.ready md ops listed → YieldsIf P ops S oi v a → S w →
      wpAnyX P md ops Q S x fuel (listed.setIfInBounds i true) (a.put oi.dst v) w → wpAnyX P md ops Q S x (fuel + 1) listed a w := by
  intro fuel
  induction fuel with
  | zero =>
    intro listed a w _ hr hy hS H
    refine ⟨fun h => (by rw [h] at hr; cases hr), fun j hj => ?_⟩
    by_cases hji : j = i
    · subst hji; exact hy.wpOp hi hS ⟨fun _ => hS, H⟩
    · have := ready_mono hj hji
      rw [H.1] at this
      cases this
  | succ fuel ih =>
    intro listed a w hfree hr hy hS H
    refine ⟨fun h => (by rw [h] at hr; cases hr), fun j hj => ?_⟩
    by_cases hji : j = i
    · subst hji; exact hy.wpOp hi hS ⟨fun _ => hS, H⟩
    · have h1 := H.2 j (ready_mono hj hji)
      obtain ⟨hjun, oj, hoj, hall⟩ := mem_ready.1 hj
      have hjx : j ≠ x := by
        have := (Array.getElem?_eq_some_iff.1 hoj).1
        omega
      have hnot : ∀ e ∈ oj.after, Region.binds md e = true → e.on ≠ i := fun e he hb heq => by
        have h1 := hall e he hb
        have h0 := (mem_ready.1 hr).1
        rw [heq] at h1
        rcases Nat.lt_or_ge i listed.size with h' | h'
        · simp [h'] at h0 h1; rw [h0] at h1; cases h1
        · simp [Array.getElem?_eq_none h'] at h1
      have h2 := wpOp_putIf hoj (hfree j oj hoj hji hjun hnot) (fun cs b => hsel i oi cs b hi) (fun cs b => hsel j oj cs b hoj) hQ hy h1
      have hfree' : ∀ k ok, ops[k]? = some ok → k ≠ i → (listed.setIfInBounds j true).getD k true = false →
          (∀ e ∈ ok.after, Region.binds md e = true → e.on ≠ i) → oi.apart ops ok = true := fun k ok hk hki hun hno => by
        refine hfree k ok hk hki ?_ hno
        by_cases hjk : j = k
        · subst hjk; exact hjun
        · rw [getD_set_ne true hjk] at hun; exact hun
      refine wpOp_mono (fun a' w' h3 => ⟨h3.2.1, ih (listed.setIfInBounds j true) a' w' hfree' (ready_mono hr (Ne.symm hji)) h3.1 (h3.2.1 hjx) ?_⟩) h2
      rw [Array.setIfInBounds_comm _ _ hji]
      exact h3.2.2
theorem wpAnyX_take0 {i : Nat} {oi : Oper} {v : Value} {fuel : Nat} {listed : Array Bool} {a : Act} {w : World} (hi : ops[i]? = some oi)
    (hs : Region.noSelect ops = true) (hx : ops.size ≤ x) (hf : Region.free md ops listed i = true) (hr : (Region.ready md ops listed).contains i = true)
    (hQ : ∀ c a w, Q (.panic c) (a.put oi.dst v) w → Q (.panic c) a w) (hS : S w) (hy : YieldsIf P ops S oi v a)
    (h : wpAnyX P md ops Q S x fuel (listed.setIfInBounds i true) (a.put oi.dst v) w) : wpAnyX P md ops Q S x (fuel + 1) listed a w :=
  wpAnyX_first0 hi (Region.noSelect_spec hs) hQ hx fuel listed a w (Region.free_spec hi hf) (by simpa using hr) hy hS h
end
theorem way_small {l : List UInt8} (h : isWayB l = true) : (bs l).size ≤ 100 := by
  unfold isWayB at h
  simp only [Bool.or_eq_true, decide_eq_true_eq] at h
  rw [← size_toList, bs_data]
  rcases h with ((h | h) | h) | h <;> rw [h] <;> decide
theorem word_small (k : Int) : (bs (wordI k)).size ≤ 100 := by
  unfold wordI
  repeat' split
  all_goals decide
set_option maxRecDepth 20000 in
set_option maxHeartbeats 4000000 in
theorem layHead_calls {w0 : World} {b : Nat} (i : It) (ka : Option Addr) (kn kc : Nat) (hs : (bs i.name).size ≤ 100) (T : List UInt8) (w : World) (hS : Sh w0 b T w) (hT : T.length ≤ 4000) :
    Calls Tryz.prog 37 #[.agg #[.int .i64 i.kind, .string (bs i.name), .slice ka kn kc, .int .i64 i.pl], layV b] w (LPost w0 b T (headI i) w) := by
  have HN : Hid (Sh w0 b T (w.alloc (.cells #[.int .i64 i.kind, .string (bs i.name), .slice ka kn kc, .int .i64 i.pl] 39)) ∧ Keep w (w.alloc (.cells #[.int .i64 i.kind, .string (bs i.name), .slice ka kn kc, .int .i64 i.pl] 39))) := ⟨hS.next (low_alloc _ _), keep_alloc _ _⟩
  by_cases h1 : i.kind = 1
  · have q1 : (i.kind == 1) = true := by rw [h1]; rfl
    have HX : Hid (headI i = [108, 101, 116, 32] ++ (i.name ++ [32, 61, 32])) := by show _ = _; unfold headI; rw [if_pos h1]
    have HLy : Hid (Calls Tryz.prog 11 #[.pointer (some ⟨b, 0, none⟩), .slice (some ⟨w.heap.size + 1, 0, none⟩) 3 3] ((w.alloc (.cells #[.int .i64 i.kind, .string (bs i.name), .slice ka kn kc, .int .i64 i.pl] 39)).alloc (.cells #[.string ⟨#[108, 101, 116, 32]⟩, .string (bs i.name), .string ⟨#[32, 61, 32]⟩] 9)) (LPost w0 b T ([108, 101, 116, 32] ++ (i.name ++ [32, 61, 32])) (w.alloc (.cells #[.int .i64 i.kind, .string (bs i.name), .slice ka kn kc, .int .i64 i.pl] 39)))) := by
      have := lay_three HN.out.1 hT ⟨#[108, 101, 116, 32]⟩ (bs i.name) ⟨#[32, 61, 32]⟩ (by decide) hs (by decide)
      rw [bs_data, show (w.alloc (.cells #[.int .i64 i.kind, .string (bs i.name), .slice ka kn kc, .int .i64 i.pl] 39)).heap.size = w.heap.size + 1 by simp] at this
      exact this
    generalize headI i = X at *
    clear hS hT h1 hs
    go_enter Tryz.func37, Tryz.ntmps37
    go_wp2_with fail
    refine HLy.out.mono ?_
    rintro e' w3 ⟨z, rfl, hp⟩
    have HP : Hid (LPost w0 b T X w (.returned (.bool z)) w3) := by
      rw [HX.out]
      exact LPost.from ⟨z, rfl, hp⟩ HN.out.2
    clear hp HLy
    go_wp2
    go_ret
    exact HP.out
  have q1 : (i.kind == 1) = false := by rw [beq_eq_false_iff_ne]; exact h1
  by_cases h7 : i.kind = 7
  · have q7 : (i.kind == 7) = true := by rw [h7]; rfl
    have HX : Hid (headI i = [109, 111, 100, 101, 32] ++ i.name) := by show _ = _; unfold headI; rw [if_neg h1, if_pos h7]
    have HLy : Hid (Calls Tryz.prog 11 #[.pointer (some ⟨b, 0, none⟩), .slice (some ⟨w.heap.size + 1, 0, none⟩) 2 2] ((w.alloc (.cells #[.int .i64 i.kind, .string (bs i.name), .slice ka kn kc, .int .i64 i.pl] 39)).alloc (.cells #[.string ⟨#[109, 111, 100, 101, 32]⟩, .string (bs i.name)] 9)) (LPost w0 b T ([109, 111, 100, 101, 32] ++ i.name) (w.alloc (.cells #[.int .i64 i.kind, .string (bs i.name), .slice ka kn kc, .int .i64 i.pl] 39)))) := by
      have := lay_two HN.out.1 hT ⟨#[109, 111, 100, 101, 32]⟩ (bs i.name) (by decide) hs
      rw [bs_data, show (w.alloc (.cells #[.int .i64 i.kind, .string (bs i.name), .slice ka kn kc, .int .i64 i.pl] 39)).heap.size = w.heap.size + 1 by simp] at this
      exact this
    generalize headI i = X at *
    clear hS hT h1 h7 hs
    go_enter Tryz.func37, Tryz.ntmps37
    go_wp2_with fail
    refine HLy.out.mono ?_
    rintro e' w3 ⟨z, rfl, hp⟩
    have HP : Hid (LPost w0 b T X w (.returned (.bool z)) w3) := by
      rw [HX.out]
      exact LPost.from ⟨z, rfl, hp⟩ HN.out.2
    clear hp HLy
    go_wp2
    go_ret
    exact HP.out
  have q7 : (i.kind == 7) = false := by rw [beq_eq_false_iff_ne]; exact h7
  have HX : Hid (headI i = wordI i.kind ++ [32]) := by show _ = _; unfold headI; rw [if_neg h1, if_neg h7]
  have HW : Hid (∀ w, Calls Tryz.prog 66 #[.int .i64 i.kind] w fun e w' => e = .returned (.string (bs (wordI i.kind))) ∧ w = w') := fun w => word_calls' _ w
  have HLy : Hid (Calls Tryz.prog 11 #[.pointer (some ⟨b, 0, none⟩), .slice (some ⟨w.heap.size + 1, 0, none⟩) 2 2] ((w.alloc (.cells #[.int .i64 i.kind, .string (bs i.name), .slice ka kn kc, .int .i64 i.pl] 39)).alloc (.cells #[.string (bs (wordI i.kind)), .string ⟨#[32]⟩] 9)) (LPost w0 b T (wordI i.kind ++ [32]) (w.alloc (.cells #[.int .i64 i.kind, .string (bs i.name), .slice ka kn kc, .int .i64 i.pl] 39)))) := by
    have := lay_two HN.out.1 hT (bs (wordI i.kind)) ⟨#[32]⟩ (word_small _) (by decide)
    rw [bs_data, show (w.alloc (.cells #[.int .i64 i.kind, .string (bs i.name), .slice ka kn kc, .int .i64 i.pl] 39)).heap.size = w.heap.size + 1 by simp] at this
    exact this
  generalize headI i = X at *
  generalize wordI i.kind ++ [32] = X1 at *
  generalize bs (wordI i.kind) = wd at *
  clear hS hT h1 h7 hs
  go_enter Tryz.func37, Tryz.ntmps37
  go_wp2_with fail
  refine (HW.out _).mono ?_
  rintro e' w2 ⟨rfl, rfl⟩
  clear HW
  go_wp2_with fail
  refine HLy.out.mono ?_
  rintro e' w3 ⟨z, rfl, hp⟩
  have HP : Hid (LPost w0 b T X w (.returned (.bool z)) w3) := by
    rw [HX.out]
    exact LPost.from ⟨z, rfl, hp⟩ HN.out.2
  clear hp HLy
  go_wp2
  go_ret
  exact HP.out
set_option maxRecDepth 20000 in
set_option maxHeartbeats 8000000 in
theorem layItem_calls {w0 : World} {b : Nat} (i : It) (ka : Option Addr) (kn kc : Nat) (hs : (bs i.name).size ≤ 100)
    (HA : ∀ (T : List UInt8) (w : World), Sh w0 b T w → T.length ≤ 4000 → Calls Tryz.prog 23 #[.slice ka kn kc, .string (bs (signI i.kind)), layV b] w (LPost w0 b T (allB (signI i.kind) true (txF i.args)) w)) (T : List UInt8) (w : World) (hS : Sh w0 b T w) (hT : T.length ≤ 4000) :
    Calls Tryz.prog 19 #[.agg #[.int .i64 i.kind, .string (bs i.name), .slice ka kn kc, .int .i64 i.pl], layV b] w (LPost w0 b T (itB i) w) := by
  have hb1 : Below w.heap.size w (w.alloc (.cells #[.int .i64 i.kind, .string (bs i.name), .slice ka kn kc, .int .i64 i.pl] 39)).drew := (low_alloc _ _).drew
  have HN : Hid (Sh w0 b T (w.alloc (.cells #[.int .i64 i.kind, .string (bs i.name), .slice ka kn kc, .int .i64 i.pl] 39)).drew ∧ Keep w (w.alloc (.cells #[.int .i64 i.kind, .string (bs i.name), .slice ka kn kc, .int .i64 i.pl] 39)).drew) := ⟨hS.next hb1, Keep.of_below hb1⟩
  have HSx : (fun W : World => W.heap[w.heap.size]? = some (.cells #[.int .i64 i.kind, .string (bs i.name), .slice ka kn kc, .int .i64 i.pl] 39 (0, 0))) (w.alloc (.cells #[.int .i64 i.kind, .string (bs i.name), .slice ka kn kc, .int .i64 i.pl] 39)).drew := heap_alloc_new w _
  have HHd : Hid (∀ (T : List UInt8) (w : World), Sh w0 b T w → T.length ≤ 4000 → Calls Tryz.prog 37 #[.agg #[.int .i64 i.kind, .string (bs i.name), .slice ka kn kc, .int .i64 i.pl], layV b] w (LPost w0 b T (headI i) w)) := fun T w h1 h2 => layHead_calls i ka kn kc hs T w h1 h2
  have HAl : Hid (∀ (T : List UInt8) (w : World), Sh w0 b T w → T.length ≤ 4000 → Calls Tryz.prog 23 #[.slice ka kn kc, .string (bs (signI i.kind)), layV b] w (LPost w0 b T (allB (signI i.kind) true (txF i.args)) w)) := HA
  have HSg : Hid (∀ w, Calls Tryz.prog 38 #[.int .i64 i.kind] w fun e w' => e = .returned (.string (bs (signI i.kind))) ∧ w = w') := fun w => sign_calls' _ w
  have HX : Hid (itB i = headI i ++ (allB (signI i.kind) true (txF i.args) ++ [59, 10])) := rfl
  have HTl : Hid (T.length ≤ 4000) := hT
  generalize itB i = X at *
  generalize headI i = X1 at *
  generalize allB (signI i.kind) true (txF i.args) = X2 at *
  generalize bs (signI i.kind) = sg at *
  clear hS hT hs HA hb1
  go_enter Tryz.func19, Tryz.ntmps19
  go_wp2_with fail
  refine wp_region_X 18 (fun W : World => W.heap[w.heap.size]? = some (.cells #[.int .i64 i.kind, .string (bs i.name), .slice ka kn kc, .int .i64 i.pl] 39 (0, 0))) (by kernel_rfl) ?_
  refine wpAnyX_take0 (i := 0) (v := .agg #[.int .i64 i.kind, .string (bs i.name), .slice ka kn kc, .int .i64 i.pl]) rfl (by kernel_rfl) (by decide) (by kernel_rfl) (by kernel_rfl) (fun _ _ _ h => h) HSx (Or.inl ⟨by rfl, by (intro W hW; have z0 := blk (i := 0) hW rfl; have z1 := blk (i := 1) hW rfl; have z2 := blk (i := 2) hW rfl; have z3 := blk (i := 3) hW rfl; go_simp)⟩) ?_
  simp only [Act.put]
  refine wpAnyX_take0 (i := 1) (v := layV b) rfl (by kernel_rfl) (by decide) (by kernel_rfl) (by kernel_rfl) (fun _ _ _ h => h) HSx (Or.inl ⟨by rfl, by (intro W hW; go_simp)⟩) ?_
  simp only [Act.put]
  refine wpAnyX_one (i := 2) rfl (by kernel_rfl) (fun K hK => ?_)
  go_simp
  refine (HHd.out T _ HN.out.1 HTl.out).mono ?_
  rintro e' w3 ⟨z, rfl, hb3, hk3, ht3, hf3⟩
  have HSy := hk3.cells HSx (by decide) (by decide)
  have HSx : (fun W : World => W.heap[w.heap.size]? = some (.cells #[.int .i64 i.kind, .string (bs i.name), .slice ka kn kc, .int .i64 i.pl] 39 (0, 0))) w3 := HSy
  refine hK.out _ _ (fun _ => HSx) ?_
  clear hK K
  cases z with
  | false =>
    have HP : Hid (LPost w0 b T X w (.returned (.bool false)) w3) := by
      rw [HX.out]
      exact LPost.stop _ hb3 (HN.out.2.trans hk3) (hf3 rfl)
    clear hb3 hk3 ht3 hf3
    refine wpAnyX_one (i := 3) rfl (by kernel_rfl) (fun K hK => ?_)
    go_simp
    refine hK.out _ _ (fun _ => HSx) ?_
    clear hK K
    refine wpAnyX_take0 (i := 4) (v := undef) rfl (by kernel_rfl) (by decide) (by kernel_rfl) (by kernel_rfl) (fun _ _ _ h => h) HSx (Or.inr ⟨by rfl, rfl⟩) ?_
    simp only [Act.put]
    refine wpAnyX_take0 (i := 5) (v := undef) rfl (by kernel_rfl) (by decide) (by kernel_rfl) (by kernel_rfl) (fun _ _ _ h => h) HSx (Or.inr ⟨by rfl, rfl⟩) ?_
    simp only [Act.put]
    refine wpAnyX_take0 (i := 6) (v := undef) rfl (by kernel_rfl) (by decide) (by kernel_rfl) (by kernel_rfl) (fun _ _ _ h => h) HSx (Or.inr ⟨by rfl, rfl⟩) ?_
    simp only [Act.put]
    refine wpAnyX_take0 (i := 7) (v := undef) rfl (by kernel_rfl) (by decide) (by kernel_rfl) (by kernel_rfl) (fun _ _ _ h => h) HSx (Or.inr ⟨by rfl, rfl⟩) ?_
    simp only [Act.put]
    refine wpAnyX_take0 (i := 9) (v := undef) rfl (by kernel_rfl) (by decide) (by kernel_rfl) (by kernel_rfl) (fun _ _ _ h => h) HSx (Or.inr ⟨by rfl, rfl⟩) ?_
    simp only [Act.put]
    refine wpAnyX_one (i := 8) rfl (by kernel_rfl) (fun K hK => ?_)
    go_simp
    refine hK.out _ _ (fun _ => HSx) ?_
    clear hK K
    refine wpAnyX_one (i := 10) rfl (by kernel_rfl) (fun K hK => ?_)
    go_simp
    refine hK.out _ _ (fun _ => HSx) ?_
    clear hK K
    refine wpAnyX_one (i := 11) rfl (by kernel_rfl) (fun K hK => ?_)
    go_simp
    refine hK.out _ _ (fun _ => HSx) ?_
    clear hK K
    refine wpAnyX_one (i := 12) rfl (by kernel_rfl) (fun K hK => ?_)
    go_simp
    refine hK.out _ _ (fun _ => HSx) ?_
    clear hK K
    refine wpAnyX_take0 (i := 13) (v := undef) rfl (by kernel_rfl) (by decide) (by kernel_rfl) (by kernel_rfl) (fun _ _ _ h => h) HSx (Or.inr ⟨by rfl, rfl⟩) ?_
    simp only [Act.put]
    refine wpAnyX_one (i := 14) rfl (by kernel_rfl) (fun K hK => ?_)
    go_simp
    refine hK.out _ _ (fun _ => HSx) ?_
    clear hK K
    refine wpAnyX_one (i := 15) rfl (by kernel_rfl) (fun K hK => ?_)
    go_simp
    refine hK.out _ _ (fun _ => HSx) ?_
    clear hK K
    refine wpAnyX_one (i := 16) rfl (by kernel_rfl) (fun K hK => ?_)
    go_simp
    refine hK.out _ _ (fun _ => HSx) ?_
    clear hK K
    refine wpAnyX_one (i := 17) rfl (by kernel_rfl) (fun K hK => ?_)
    go_simp
    refine hK.out _ _ (fun _ => HSx) ?_
    clear hK K
    refine wpAnyX_done (by kernel_rfl) ?_ _
    go_wp2
    go_ret
    exact HP.out
  | true =>
    obtain ⟨hS3, hT3⟩ := ht3 rfl
    have HS3 : Hid (Sh w0 b (T ++ X1) w3 ∧ (T ++ X1).length ≤ 4000 ∧ Keep w w3) := ⟨hS3, hT3, HN.out.2.trans hk3⟩
    clear hb3 hk3 ht3 hf3 hS3 hT3 HSy
    refine wpAnyX_one (i := 3) rfl (by kernel_rfl) (fun K hK => ?_)
    go_simp
    refine hK.out _ _ (fun _ => HSx) ?_
    clear hK K
    refine wpAnyX_take0 (i := 4) (v := .pointer (some ⟨w.heap.size, 2, none⟩)) rfl (by kernel_rfl) (by decide) (by kernel_rfl) (by kernel_rfl) (fun _ _ _ h => h) HSx (Or.inl ⟨by rfl, by (intro W hW; go_simp)⟩) ?_
    simp only [Act.put]
    refine wpAnyX_take0 (i := 5) (v := .slice ka kn kc) rfl (by kernel_rfl) (by decide) (by kernel_rfl) (by kernel_rfl) (fun _ _ _ h => h) HSx (Or.inl ⟨by rfl, by (intro W hW; have z0 := blk (i := 0) hW rfl; have z1 := blk (i := 1) hW rfl; have z2 := blk (i := 2) hW rfl; have z3 := blk (i := 3) hW rfl; go_simp)⟩) ?_
    simp only [Act.put]
    refine wpAnyX_take0 (i := 6) (v := .pointer (some ⟨w.heap.size, 0, none⟩)) rfl (by kernel_rfl) (by decide) (by kernel_rfl) (by kernel_rfl) (fun _ _ _ h => h) HSx (Or.inl ⟨by rfl, by (intro W hW; go_simp)⟩) ?_
    simp only [Act.put]
    refine wpAnyX_take0 (i := 7) (v := .int .i64 i.kind) rfl (by kernel_rfl) (by decide) (by kernel_rfl) (by kernel_rfl) (fun _ _ _ h => h) HSx (Or.inl ⟨by rfl, by (intro W hW; have z0 := blk (i := 0) hW rfl; have z1 := blk (i := 1) hW rfl; have z2 := blk (i := 2) hW rfl; have z3 := blk (i := 3) hW rfl; go_simp)⟩) ?_
    simp only [Act.put]
    refine wpAnyX_take0 (i := 9) (v := layV b) rfl (by kernel_rfl) (by decide) (by kernel_rfl) (by kernel_rfl) (fun _ _ _ h => h) HSx (Or.inl ⟨by rfl, by (intro W hW; go_simp)⟩) ?_
    simp only [Act.put]
    refine wpAnyX_one (i := 8) rfl (by kernel_rfl) (fun K hK => ?_)
    go_simp
    refine (HSg.out _).mono ?_
    rintro e' w4 ⟨rfl, rfl⟩
    refine hK.out _ _ (fun _ => HSx) ?_
    clear hK K
    refine wpAnyX_one (i := 10) rfl (by kernel_rfl) (fun K hK => ?_)
    go_simp
    refine (HAl.out _ _ HS3.out.1 HS3.out.2.1).mono ?_
    rintro e' w5 ⟨z, rfl, hb5, hk5, ht5, hf5⟩
    have HSy := hk5.cells HSx (by decide) (by decide)
    have HSx : (fun W : World => W.heap[w.heap.size]? = some (.cells #[.int .i64 i.kind, .string (bs i.name), .slice ka kn kc, .int .i64 i.pl] 39 (0, 0))) w5 := HSy
    refine hK.out _ _ (fun _ => HSx) ?_
    clear hK K
    cases z with
    | false =>
      have HP : Hid (LPost w0 b T X w (.returned (.bool false)) w5) := by
        rw [HX.out]
        exact LPost.after (LPost.stop _ hb5 hk5 (hf5 rfl)) HS3.out.2.2
      clear hb5 hk5 ht5 hf5
      refine wpAnyX_one (i := 11) rfl (by kernel_rfl) (fun K hK => ?_)
      go_simp
      refine hK.out _ _ (fun _ => HSx) ?_
      clear hK K
      refine wpAnyX_one (i := 12) rfl (by kernel_rfl) (fun K hK => ?_)
      go_simp
      refine hK.out _ _ (fun _ => HSx) ?_
      clear hK K
      refine wpAnyX_take0 (i := 13) (v := undef) rfl (by kernel_rfl) (by decide) (by kernel_rfl) (by kernel_rfl) (fun _ _ _ h => h) HSx (Or.inr ⟨by rfl, rfl⟩) ?_
      simp only [Act.put]
      refine wpAnyX_one (i := 14) rfl (by kernel_rfl) (fun K hK => ?_)
      go_simp
      refine hK.out _ _ (fun _ => HSx) ?_
      clear hK K
      refine wpAnyX_one (i := 15) rfl (by kernel_rfl) (fun K hK => ?_)
      go_simp
      refine hK.out _ _ (fun _ => HSx) ?_
      clear hK K
      refine wpAnyX_one (i := 16) rfl (by kernel_rfl) (fun K hK => ?_)
      go_simp
      refine hK.out _ _ (fun _ => HSx) ?_
      clear hK K
      refine wpAnyX_one (i := 17) rfl (by kernel_rfl) (fun K hK => ?_)
      go_simp
      refine hK.out _ _ (fun _ => HSx) ?_
      clear hK K
      refine wpAnyX_done (by kernel_rfl) ?_ _
      go_wp2
      go_ret
      exact HP.out
    | true =>
      obtain ⟨hS5, hT5⟩ := ht5 rfl
      have HLz : Hid (Calls Tryz.prog 11 #[.pointer (some ⟨b, 0, none⟩), .slice (some ⟨w5.heap.size, 0, none⟩) 1 1] (w5.alloc (.cells #[.string ⟨#[59, 10]⟩] 9)) (LPost w0 b (T ++ X1 ++ X2) [59, 10] w5)) := lay_one hS5 hT5 ⟨#[59, 10]⟩ (by decide)
      have HK5 : Hid (Keep w3 w5) := hk5
      clear hb5 hk5 ht5 hf5 hS5 hT5 HSy
      refine wpAnyX_one (i := 11) rfl (by kernel_rfl) (fun K hK => ?_)
      go_simp
      refine hK.out _ _ (fun _ => HSx) ?_
      clear hK K
      refine wpAnyX_one (i := 12) rfl (by kernel_rfl) (fun K hK => ?_)
      go_simp
      refine hK.out _ _ (fun _ => HSx) ?_
      clear hK K
      refine wpAnyX_take0 (i := 13) (v := layV b) rfl (by kernel_rfl) (by decide) (by kernel_rfl) (by kernel_rfl) (fun _ _ _ h => h) HSx (Or.inl ⟨by rfl, by (intro W hW; go_simp)⟩) ?_
      simp only [Act.put]
      refine wpAnyX_one (i := 14) rfl (by kernel_rfl) (fun K hK => ?_)
      go_simp
      have HSq := HSx
      have HSx : (fun W : World => W.heap[w.heap.size]? = some (.cells #[.int .i64 i.kind, .string (bs i.name), .slice ka kn kc, .int .i64 i.pl] 39 (0, 0))) (w5.alloc (.cells #[.string ⟨#[59, 10]⟩] 9)) := heap_old HSx
      refine hK.out _ _ (fun _ => HSx) ?_
      clear hK K
      refine wpAnyX_one (i := 15) rfl (by kernel_rfl) (fun K hK => ?_)
      go_simp
      refine HLz.out.mono ?_
      rintro e' w6 ⟨z, rfl, hp⟩
      have HP : Hid (LPost w0 b T X w (.returned (.bool z)) w6) := by
        rw [HX.out]
        exact LPost.after (LPost.after ⟨z, rfl, hp⟩ HK5.out) HS3.out.2.2
      have HSw := (hp.2.1 : Keep _ _)
      have HSx : (fun W : World => W.heap[w.heap.size]? = some (.cells #[.int .i64 i.kind, .string (bs i.name), .slice ka kn kc, .int .i64 i.pl] 39 (0, 0))) w6 := by
        exact HSw.cells HSq (by decide) (by decide)
      clear hp
      refine hK.out _ _ (fun _ => HSx) ?_
      clear hK K
      refine wpAnyX_one (i := 16) rfl (by kernel_rfl) (fun K hK => ?_)
      go_simp
      refine hK.out _ _ (fun _ => HSx) ?_
      clear hK K
      refine wpAnyX_one (i := 17) rfl (by kernel_rfl) (fun K hK => ?_)
      go_simp
      refine hK.out _ _ (fun _ => HSx) ?_
      clear hK K
      refine wpAnyX_done (by kernel_rfl) ?_ _
      go_wp2
      go_ret
      exact HP.out

end Go.Proofs.YtpeldiibjhffiaaGreatDoor
