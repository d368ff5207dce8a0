/-
  The walk of the document's own Scan. What stands in memory while the document's own Parse reads items.
-/
import Derived.Test.YtnnmhmlebffacaaG18
import Derived.Test.YtnnmhmlebffacaaG36
import Derived.Test.YtnnmhmlebffacaaG38
import Derived.Test.YtnnmhmlebffacaaG43
import Derived.Test.YtnnmhmlebffacaaG45
namespace Go.Proofs.Ytnnmhmlebffacaa
open Go.RowKit

set_option maxRecDepth 20000 in
set_option maxHeartbeats 4000000 in
theorem refScan_calls (s : ByteArray) (w : World) :
    Calls Try.prog 25 #[.string s] w fun e w' => ScanPost (scanB s.data.toList) w e w' := by
  by_cases hlen : 4000 < s.size
  · have HE : Hid (ScanPost (scanB s.data.toList) w (.returned (.tuple #[.slice none 0 0, .int .i64 0, .int .i64 2])) w) := scan_none (p := 0) (by unfold scanB; rw [if_pos (by rw [size_toList]; exact hlen)]) (Below.refl _ _)
    have hd : decide ((4000 : Int) < (s.size : Int)) = true := by simp; omega
    go_enter Try.func25, Try.ntmps25
    go_wp2
    go_ret3
    exact HE.out
  have hd : decide ((4000 : Int) < (s.size : Int)) = false := by simp; omega
  have HA : Hid (scanB s.data.toList = finB s.size (tokB (skipB s.data.toList) (s.data.toList.drop (skipB s.data.toList)))) := by
    show _ = _
    unfold scanB; rw [if_neg (by rw [size_toList]; exact hlen), size_toList]
  have hk0 : skipB s.data.toList ≤ s.size := by rw [← size_toList]; exact skipB_le _
  obtain ⟨i0, hi, hz0, hz1, hz2⟩ := info_parts info48
  have HB0 : Hid (∀ w, Calls Try.prog 41 #[.string s, .int .i64 0] w fun e w' => e = .returned (.int .i64 (skipB s.data.toList : Int)) ∧ w = w') := fun w => by
    have h := skipped_calls s 0 w (by omega) (Nat.zero_le _)
    rw [List.drop_zero, Nat.zero_add] at h
    exact h.mono fun e w' h => ⟨h.1, h.2.symm⟩
  go_enter Try.func25, Try.ntmps25
  go_wp2_with (go_at_call 41; refine (HB0.out _).mono ?_; rintro e w0 ⟨rfl, rfl⟩)
  clear HB0
  go_loopw [5, 6] (fun v at_ wr => ∃ (p : Nat) (l : List Tk), p ≤ s.size ∧ at_ = .int .i64 p ∧ l.length ≤ p ∧ Hid (addT l (tokB p (s.data.toList.drop p)) = tokB (skipB s.data.toList) (s.data.toList.drop (skipB s.data.toList))) ∧ wr.ownsRow w.heap.size 48 4 v l.length (rowCells l) ∧ Below w.heap.size w wr) (fun _ at_ _ => s.size - (intOf at_).toNat)
  case atStart => exact ⟨skipB s.data.toList, [], hk0, rfl, by simp, by simp [addT, Hid], World.ownsRow_nil _ _ _ _, Below.refl _ _⟩
  case round =>
    obtain ⟨p, l, hp0, rfl, hll, HT, hown, hbw⟩ := hrel
    obtain ⟨ao, cap, rfl⟩ := owned_shape hown
    have HO : Hid (wr.ownsRow w.heap.size 48 4 (.slice ao l.length cap) l.length (rowCells l)) := hown
    have HB : Hid (Below w.heap.size w wr) := hbw
    clear hown hbw
    by_cases hp : p < s.size
    · have hdk : decide ((p : Int) < (s.size : Int)) = true := by simp; omega
      have hne : s.data.toList.drop p ≠ [] := fun e => by
        have := congrArg List.length e
        rw [List.length_drop, size_toList] at this
        simp at this; omega
      have HF : Hid (∀ w, Calls Try.prog 42 #[.string s, .int .i64 (p : Int)] w fun e w' => NextPost (s.data.toList.drop p) p w e w') := fun w => next_calls s p w (by omega) hp
      by_cases herr : errB (s.data.toList.drop p) = 0
      · have hn1 := lenB_pos hne
        have hn2 := lenB_le hne herr
        rw [List.length_drop, size_toList] at hn2
        have HS : Hid (addT (l ++ [tkB (s.data.toList.drop p) p]) (tokB (p + lenB (s.data.toList.drop p) + skipB (s.data.toList.drop (p + lenB (s.data.toList.drop p)))) (s.data.toList.drop (p + lenB (s.data.toList.drop p) + skipB (s.data.toList.drop (p + lenB (s.data.toList.drop p)))))) = tokB (skipB s.data.toList) (s.data.toList.drop (skipB s.data.toList))) := by
          show _ = _
          rw [← HT.out, tokB_step l hne herr, List.drop_drop, List.drop_drop, ← Nat.add_assoc]
        have hsk : skipB (s.data.toList.drop (p + lenB (s.data.toList.drop p))) ≤ s.size - (p + lenB (s.data.toList.drop p)) := by
          have := skipB_le (s.data.toList.drop (p + lenB (s.data.toList.drop p)))
          rw [List.length_drop, size_toList] at this
          exact this
        have HN : Hid (∀ w, Calls Try.prog 41 #[.string s, .int .i64 ((p + lenB (s.data.toList.drop p) : Nat) : Int)] w fun e w' => e = .returned (.int .i64 ((p + lenB (s.data.toList.drop p) + skipB (s.data.toList.drop (p + lenB (s.data.toList.drop p))) : Nat) : Int)) ∧ w' = w) := fun w => skipped_calls s _ w (by omega) (by omega)
        have HF2 : Hid (∀ w, Calls Try.prog 42 #[.string s, .int .i64 (p : Int)] w fun e w' => e = .returned (.tuple #[.agg #[.int .i64 (kindB (s.data.toList.drop p)), .int .i64 (numB (s.data.toList.drop p) : Int), .string (bs (textB (s.data.toList.drop p))), .int .i64 (p : Int)], .int .i64 ((p + lenB (s.data.toList.drop p) : Nat) : Int), .int .i64 0]) ∧ Below w.heap.size w w') := fun w => (HF.out w).mono fun e w' ⟨k, n, x, y, b, he, hz, hb⟩ => by
          obtain ⟨rfl, rfl, rfl, rfl, rfl⟩ := hz herr
          rw [herr] at he
          exact ⟨he, hb⟩
        have HNW : Hid (∀ (W : World) (o : Obj) (i : Nat) (u : Value), (tkCells (tkB (s.data.toList.drop p) p))[i]? = some u → ((W.alloc o).alloc (.cells #[.int .i64 (kindB (s.data.toList.drop p)), .int .i64 (numB (s.data.toList.drop p) : Int), .string (bs (textB (s.data.toList.drop p))), .int .i64 (p : Int)] 48)).cell? ((⟨W.heap.size + 1, 0, none⟩ : Addr).add i) = some u) := fun W o i u hu => cell_tk_new2 W o (tkB (s.data.toList.drop p) p) i u hu
        clear herr hne HT HF
        generalize tkB (s.data.toList.drop p) p = tk at *
        generalize skipB (s.data.toList.drop (p + lenB (s.data.toList.drop p))) = k at *
        generalize lenB (s.data.toList.drop p) = n at *
        generalize kindB (s.data.toList.drop p) = kd at *
        generalize numB (s.data.toList.drop p) = nm at *
        generalize textB (s.data.toList.drop p) = tx at *
        obtain ⟨q, hq⟩ : ∃ q, q = p + n := ⟨_, rfl⟩
        rw [← hq] at HN HF2 HS hsk
        have hqs : q ≤ s.size := by omega
        have hpq : p + 1 ≤ q := by omega
        clear hq hn1 hn2
        go_wp2_with fail
        refine (HF2.out _).mono ?_
        rintro e w1 ⟨rfl, hb1⟩
        have HO1 : Hid (w1.ownsRow w.heap.size 48 4 (.slice ao l.length cap) l.length (rowCells l)) := owned_below HO.out hb1
        have HB1 : Hid (Below w.heap.size w w1) := HB.out.trans (hb1.mono HB.out.size)
        have hsz1 := HB1.out.size
        clear hb1 HF2 HO HB
        go_wp2_with (at_builtin; go_loud (refine wpList_append_own _ rfl _ _ 44 rfl w.heap.size 48 i0 (.agg #[.int .i64 0, .int .i64 0, .string ByteArray.empty, .int .i64 0]) 4 40 Try.underlying44 hi hz0 hz1 hz2 rfl (by decide) (.slice ao l.length cap) _ _ rfl ((HO1.out.alloc _).alloc _) ⟨_, 0, none⟩ 1 1 (tkCells tk) rfl rfl (HNW.out _ _) (tk_oneCell _) (by unfold maxLen; omega) (by omega) (by simp; omega) ?_); intro v' w3 hown' hgrow3 hnil3)
        have HO3 : Hid (w3.ownsRow w.heap.size 48 4 v' (l ++ [tk]).length (rowCells (l ++ [tk]))) := by
          show World.ownsRow _ _ _ _ _ _ _
          rw [rowCells_snoc, List.length_append]; exact hown'
        have HB3 : Hid (Below w.heap.size w w3) := HB1.out.trans (below_append2 HO1.out hsz1 hgrow3)
        clear hown' hgrow3 hnil3 HO1 HB1 HNW
        have hlen2 : (l ++ [tk]).length ≤ q + k := by simp; omega
        generalize l ++ [tk] = l2 at *
        go_wp2_with (go_at_call 41; refine (HN.out _).mono ?_; rintro e w4 ⟨rfl, rfl⟩)
        go_roundw
        case rel => exact ⟨q + k, l2, by omega, rfl, hlen2, HS.out, HO3.out, HB3.out⟩
        case measure => simp [intOf]; omega
      · have HE : Hid (scanB s.data.toList = ([], p, errB (s.data.toList.drop p))) := by
          show _ = _
          rw [HA.out, ← HT.out, tokB_err hne herr]
          unfold finB addT
          rw [if_neg herr]
        have hez : (errB (s.data.toList.drop p) != 0) = true := by rw [bne_iff_ne]; exact herr
        clear herr hne HT HA HO
        go_wp2_with fail
        refine (HF.out _).mono ?_
        rintro e w1 ⟨k, n, x, y, b, rfl, _, hb1⟩
        generalize errB (s.data.toList.drop p) = z at *
        have HB1 : Hid (Below w.heap.size w w1) := HB.out.trans (hb1.mono HB.out.size)
        clear hb1 HF HB
        go_wp2
        go_ret3
        exact scan_none HE.out (HB1.out.alloc HB1.out.size _)
    · have hdk : decide ((p : Int) < (s.size : Int)) = false := by simp; omega
      have HE : Hid (scanB s.data.toList = (l ++ [endTk s.size], 0, 0)) := by
        show _ = _
        rw [HA.out, ← HT.out, List.drop_eq_nil_of_le (by rw [size_toList]; omega), tokB_nil]
        unfold finB addT
        rw [if_pos rfl]
        simp
      have hwz := HB.out.size
      clear HA HT
      go_wp2_with (at_builtin; go_loud (refine wpList_append_own _ rfl _ _ 44 rfl w.heap.size 48 i0 (.agg #[.int .i64 0, .int .i64 0, .string ByteArray.empty, .int .i64 0]) 4 40 Try.underlying44 hi hz0 hz1 hz2 rfl (by decide) (.slice ao l.length cap) _ _ rfl (HO.out.alloc _) ⟨_, 0, none⟩ 1 1 (tkCells (endTk s.size)) rfl rfl (cell_tk_new _ (endTk s.size)) (tk_oneCell _) (by unfold maxLen; omega) (by omega) (by simp; omega) ?_); intro v' w3 hown' hgrow3 hnil3)
      go_ret3
      rw [HE.out]
      refine ⟨v', rfl, ?_, HB.out.trans (below_append HO.out hwz hgrow3)⟩
      rw [rowCells_snoc, List.length_append]; exact hown'
end Go.Proofs.Ytnnmhmlebffacaa
namespace Go.Proofs.Ytnnmhmlebffacaa
open Go.RowKit Go.Deep

theorem good_wd {S : List UInt8} {t : Tk} (h : Good S t) : WdT t := by
  intro hk
  have hi := h.is
  have hr := h.right
  cases hs : S.drop t.pl with
  | nil => exact absurd hs h.some
  | cons c r =>
    rw [hs] at hi hr
    rcases tk_cases (p := t.pl) (s := c :: r) (by simp) hr with q | q | q | q | q
    · rw [← hi, hk] at q; exact absurd q.1 (by decide)
    · rw [← hi, hk] at q; exact absurd q.1 (by decide)
    · rw [← hi] at q; exact q.2.1
    · rw [← hi, hk] at q; exact absurd q.1 (by decide)
    · rw [← hi, hk] at q; exact absurd q.1 (by decide)
theorem scan_wd {S : List UInt8} (h : (scanB S).2.2 = 0) : ∀ t ∈ (scanB S).1, WdT t := by
  obtain ⟨_, _, T, hT, hg, _⟩ := scan_good h
  intro t ht
  rw [hT] at ht
  rcases List.mem_append.1 ht with h | h
  · exact good_wd (hg t h)
  · rw [List.mem_singleton.1 h]; intro e; cases e
structure QR (B b : Nat) (ta : Option Addr) (tn tc : Nat) (T : List Tk) (w1 : World) (l : List Tk) (bad : Bool) (m : List Int) (xs : List Is) (v : Value) (n : Nat) (W : World) : Prop where
  p : RIs B b ta tn tc T l bad m W
  kr : Kr B b w1 W
  nb : b < w1.heap.size
  nB : B ≤ b
  tv : W.heap[w1.heap.size]? = some (.cells #[v] 24 (0, 0))
  own : W.ownsRow (w1.heap.size + 1) 42 4 v n (iRow xs)
/-- All items that were read are known. -/
def QX (w1 : World) (xs : List Is) (v : Value) (W : World) : Prop := ∀ x ∈ xs, IsAt true (fun g => w1.heap.size + 1 ≤ g ∧ some g ≠ v.ownBlock) W x
theorem IsAt.kr {B b : Nat} {S : Nat → Prop} {w w' : World} {x : Is} (h : IsAt true S w x) (hk : Kr B b w w') {cs : Array Value} (hb : w.heap[b]? = some (.cells cs 58 (0, 0))) : IsAt true S w' x := ⟨h.ok, h.few, h.fo.kr hk hb⟩
section
variable {B b : Nat} {ta : Option Addr} {tn tc : Nat} {T : List Tk} {w1 : World} {l : List Tk} {bad : Bool} {m : List Int} {xs : List Is} {v : Value} {n : Nat} {W W' : World}
theorem QR.go (H : QR B b ta tn tc T w1 l bad m xs v n W) (hk : Kr B b W W') {l' : List Tk} {bad' : Bool} {m' : List Int} (hp : RIs B b ta tn tc T l' bad' m' W') : QR B b ta tn tc T w1 l' bad' m' xs v n W' := by
  obtain ⟨cs, hb⟩ := H.p.own
  exact ⟨hp, H.kr.trans hk, H.nb, H.nB, hk.keep H.tv (by have := H.nb; omega) (by decide), owned_of_block H.own fun g cur _ hc => by rw [hk.keep hc (fun e => by rw [e, hb] at hc; cases hc) (by decide), hc]⟩
theorem QR.next (H : QR B b ta tn tc T w1 l bad m xs v n W) (hk : Below W.heap.size W W') : QR B b ta tn tc T w1 l bad m xs v n W' := H.go (Kr.of_below hk) (H.p.below hk)
theorem QX.go (h : QX w1 xs v W) (hk : Kr B b W W') {cs : Array Value} (hb : W.heap[b]? = some (.cells cs 58 (0, 0))) : QX w1 xs v W' := fun x hx => (h x hx).kr hk hb
theorem QX.next (h : QX w1 xs v W) (hk : Below W.heap.size W W') : QX w1 xs v W' := fun x hx => (h x hx).below hk
theorem QR.len (H : QR B b ta tn tc T w1 l bad m xs v n W) : n = xs.length := by have := H.own.1; rw [iRow_length] at this; omega
/-- One more. -/
theorem QR.add (H : QR B b ta tn tc T w1 l bad m xs v n W) {x : Is} {v' : Value} {w4 : World}
    (ho : w4.ownsRow (w1.heap.size + 1) 42 4 v' (n + 1) (iRow xs ++ isCells x)) (hg : W.grownBy w4 v.ownBlock) (hf : ∀ g, v'.ownBlock = some g → some g = v.ownBlock ∨ W.heap.size ≤ g) :
    w4.heap[w1.heap.size]? = some (.cells #[v] 24 (0, 0)) ∧ QR B b ta tn tc T w1 l bad m (xs ++ [x]) v' (n + 1) (w4.setCell ⟨w1.heap.size, 0, none⟩ v') ∧ (QX w1 xs v W → IsAt true (fun g => w1.heap.size + 1 ≤ g ∧ some g ≠ v.ownBlock) W x → QX w1 (xs ++ [x]) v' (w4.setCell ⟨w1.heap.size, 0, none⟩ v')) := by
  have hnb := H.nb
  have hnB := H.nB
  have hkeep : ∀ g, g < W.heap.size → (w1.heap.size + 1 ≤ g ∧ some g ≠ v.ownBlock) → w4.heap[g]? = W.heap[g]? := fun g h1 h2 => hg.block g h1 h2.2
  have hbase : ∀ g, g < W.heap.size → (w1.heap.size + 1 ≤ g ∧ some g ≠ v.ownBlock) → (w1.heap.size + 1 ≤ g ∧ some g ≠ v'.ownBlock) := fun g h1 h2 => by
    refine ⟨h2.1, fun e => ?_⟩
    rcases hf g e.symm with h3 | h3
    · exact h2.2 h3
    · omega
  have hb4 : w4.heap[w1.heap.size]? = some (.cells #[v] 24 (0, 0)) := by
    rw [hg.block _ (lt_block H.tv) (fun e => by have := (H.own.lt _ e.symm).1; omega)]; exact H.tv
  have hoth : ∀ g, g ≠ w1.heap.size → (w4.setCell ⟨w1.heap.size, 0, none⟩ v').heap[g]? = w4.heap[g]? := fun g hne => heap_other rfl hne
  have hp4 := H.p.grown hg fun k hk => by
    have h1 := (H.own.lt k hk).1
    refine ⟨by omega, ?_⟩
    rcases H.own.2 with ⟨hv, _⟩ | ⟨g, cap, cur, hv, _, hgr, _⟩
    · rw [hv] at hk; cases hk
    · rw [hv] at hk
      have : g = k := by simpa [Value.ownBlock] using hk
      subst this
      exact ⟨cur, 42, by decide, by decide, hgr⟩
  refine ⟨hb4, ⟨hp4.other (by omega) (by omega) hb4 (by decide) 0 v', (H.kr.grown hg (fun k hk => by have := (H.own.lt k hk).1; omega)).setNew (Nat.le_refl _) 0 v', hnb, hnB, heap_put hb4 rfl, ?_⟩, fun hX hx y hy => ?_⟩
  · rw [iRow_snoc]
    exact owned_of_block ho fun g cur hgo _ => hoth g (fun e => by have := (ho.lt g hgo).1; omega)
  · have hE : IsAt true (fun g => w1.heap.size + 1 ≤ g ∧ some g ≠ v.ownBlock) W y := by
      rcases List.mem_append.1 hy with hy | hy
      · exact hX y hy
      · rw [List.mem_singleton.1 hy]; exact hx
    have h1 : IsAt true (fun g => (w1.heap.size + 1 ≤ g ∧ some g ≠ v.ownBlock) ∧ (w1.heap.size + 1 ≤ g ∧ some g ≠ v'.ownBlock)) W y := hE.base fun g h1 h2 => ⟨h2, hbase g h1 h2⟩
    have h2 : IsAt true (fun g => w1.heap.size + 1 ≤ g ∧ some g ≠ v'.ownBlock) w4 y := (h1.keep fun g h2 h3 => hkeep g h2 h3.1).base fun g _ h2 => h2.2
    exact h2.keep fun g _ h3 => hoth g (by have := h3.1; omega)
theorem QR.done (H : QR B b ta tn tc T w1 l bad m xs v n W) (hX : QX w1 xs v W) {ao : Option Addr} {cap : Nat} (hv : v = .slice ao n cap) : ItsAt true (fun g => w1.heap.size + 1 ≤ g) W (xs.map (·.1)) ao n := by
  have ho := H.own
  rw [hv] at ho
  exact (itsAt_owned (fun g _ hg => hg) ho fun x hx => (hX x hx).base fun g _ hg => hg.1).1
/-- The results' variables are as they were. -/
def ResAt (w : World) (b : Nat) (W : World) : Prop := Below w.heap.size w W ∧ w.heap.size + 1 < b ∧ W.heap[w.heap.size]? = some (.cells #[.slice none 0 0] 24 (0, 0)) ∧ W.heap[w.heap.size + 1]? = some (.cells #[.int .i64 0, .int .i64 0] 27 (0, 0))
theorem QR.res {w : World} (H : QR B b ta tn tc T w1 l bad m xs v n W) (hB : w.heap.size + 1 < B) (h : ResAt w b w1) : ResAt w b W := by
  obtain ⟨h1, h2, h3, h4⟩ := h
  have := h1.size
  exact ⟨h1.trans (H.kr.below (by omega) (by omega) h1.size), h2, H.kr.keep h3 (by omega) (by decide), H.kr.keep h4 (by omega) (by decide)⟩
end
theorem ResAt.next {w W W' : World} {b : Nat} (h : ResAt w b W) (hb : Below W.heap.size W W') : ResAt w b W' :=
  ⟨h.1.trans (hb.mono h.1.size), h.2.1, by rw [hb.block _ (lt_block h.2.2.1)]; exact h.2.2.1, by rw [hb.block _ (lt_block h.2.2.2)]; exact h.2.2.2⟩
theorem ResAt.facts {w W : World} {b : Nat} (h : ResAt w b W) : W.cell? ⟨w.heap.size, 0, none⟩ = some (.slice none 0 0) ∧ W.frozen? ⟨w.heap.size, 0, none⟩ = false ∧ W.cell? ⟨w.heap.size + 1, 0, none⟩ = some (.int .i64 0) ∧ W.cell? ⟨w.heap.size + 1, 1, none⟩ = some (.int .i64 0) ∧ W.frozen? ⟨w.heap.size + 1, 0, none⟩ = false ∧ W.frozen? ⟨w.heap.size + 1, 1, none⟩ = false :=
  ⟨blk h.2.2.1 rfl, blkf 0 h.2.2.1, blk h.2.2.2 rfl, blk h.2.2.2 rfl, blkf 0 h.2.2.2, blkf 1 h.2.2.2⟩
theorem ResAt.set {w W : World} {b : Nat} (h : ResAt w b W) (u v x : Value) : Below w.heap.size w (((W.setCell ⟨w.heap.size, 0, none⟩ u).setCell ⟨w.heap.size + 1, 0, none⟩ v).setCell ⟨w.heap.size + 1, 1, none⟩ x) :=
  ((h.1.setCell (p := ⟨w.heap.size, 0, none⟩) (Nat.le_refl _) _).setCell (p := ⟨w.heap.size + 1, 0, none⟩) (Nat.le_succ _) _).setCell (p := ⟨w.heap.size + 1, 1, none⟩) (Nat.le_succ _) _
/-- Numbers in an owned row. -/
theorem owned_int {W : World} {B n : Nat} {ma : Option Addr} {mc : Nat} {m : List Int} (h : W.ownsRow B 3 1 (.slice ma n mc) n (m.map fun z => .int .i64 z)) {i : Nat} {z : Int} (hz : m[i]? = some z) : ∃ g, ma = some ⟨g, 0, none⟩ ∧ W.cell? ⟨g, i, none⟩ = some (.int .i64 z) := by
  have hn : n = m.length := by have := h.1; simpa using this.symm
  have hi : i < m.length := (List.getElem?_eq_some_iff.1 hz).1
  rcases h.2 with ⟨hv, h0⟩ | ⟨g, cap', cur, hv, hb, hg, h1, h2, h3, h4⟩
  · omega
  · cases hv
    refine ⟨g, rfl, ?_⟩
    rw [cell_of_row W g i cur 3 (0, 0) hg]
    have h5 : (cur.toList.take (n * 1))[i]? = some (.int .i64 z) := by rw [h4]; simp [hz]
    rw [List.getElem?_take_of_lt (by omega)] at h5
    simpa using h5
end Go.Proofs.Ytnnmhmlebffacaa
