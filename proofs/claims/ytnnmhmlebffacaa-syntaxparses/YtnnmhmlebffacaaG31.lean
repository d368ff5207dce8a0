/-
  The document's factor: brackets, what is none. The document's factor where something is wrong already.
-/
import Derived.Deep.DeepCutAuto
import Derived.Test.YtnnmhmlebffacaaG29
import Derived.Test.YtnnmhmlebffacaaG30
namespace Go.Proofs.Ytnnmhmlebffacaa
open Go.RowKit Go.Deep

set_option maxRecDepth 20000 in
set_option maxHeartbeats 4000000 in
theorem fR_par {B b : Nat} {ta : Option Addr} {tn tc : Nat} {T : List Tk} {m : List Int} (n : Nat) (w : World) {t : Tk} {r : List Tk} (h : RIs B b ta tn tc T (t :: r) false m w) (hBb : B ≤ b) (hT : ∀ t ∈ T, WdT t) (hr : r.length ≤ n) (HK : ∀ l m w, RIs B b ta tn tc T l false m w → l.length ≤ n → Calls Try.prog 46 #[.pointer (some ⟨b, 0, none⟩)] w (RPost B b ta tn tc T m (exprG (facN n) l) w)) (hk : t.kind = 6) (htx : t.text = [40]) :
    Calls Try.prog 90 #[.pointer (some ⟨b, 0, none⟩)] w (RPost B b ta tn tc T m (facN (n + 1) (t :: r)) w) := by
  have hres : Try.f90.results = #[.cell 2 35] := by kernel_rfl
  have hcp := h
  obtain ⟨m9, hA9, -⟩ := hcp
  obtain ⟨k9, mv9, mn9, -, -, hb9, -⟩ := hA9.block
  have hok := hA9.toks.fits t (hA9.mem t (by simp))
  have bw : ∀ o, (w.alloc o).cell? ⟨b, 2, none⟩ = some (.bool false) := fun o => keepc ((Below.refl w.heap.size w).alloc (Nat.le_refl _) o) (blk (i := 2) hb9 rfl)
  have hp0 : RIs B b ta tn tc T (t :: r) false m (w.alloc (.cells zero5 35)) := h.below ((Below.refl _ _).alloc (Nat.le_refl _) _)
  have HNx : Hid (Calls Try.prog 26 #[.pointer (some ⟨b, 0, none⟩)] (w.alloc (.cells zero5 35)) fun e w' => e = .returned (.agg #[.int .i64 t.kind, .int .i64 t.num, .string (bs t.text), .int .i64 (t.pl : Int)]) ∧ Below (w.alloc (.cells zero5 35)).heap.size (w.alloc (.cells zero5 35)) w') := hp0.nextC
  have H0 : Hid (RIs B b ta tn tc T (t :: r) false m w ∧ TkOk t) := ⟨h, hok⟩
  have hlt := h.lt
  have k2 : (t.kind == 2) = false := by rw [beq_eq_false_iff_ne, hk]; decide
  have k3 : (t.kind == 3) = false := by rw [beq_eq_false_iff_ne, hk]; decide
  have k5 : (t.kind == 5) = false := by rw [beq_eq_false_iff_ne, hk]; decide
  have k4 : (t.kind == 4) = false := by rw [beq_eq_false_iff_ne, hk]; decide
  have k6 : (t.kind == 6) = true := by rw [beq_iff_eq]; exact hk
  have q0 : ((bs t.text).toList == [45]) = false := by rw [txt_is, htx]; rfl
  have q1 : ((bs t.text).toList == [40]) = true := by rw [txt_is, htx]; rfl
  have HX : Hid (facN (n + 1) (t :: r) = closeG [41] (exprG (facN n) r)) := by
    show _ = _
    have i1 : isT 6 [45] t = false := by unfold isT; rw [hk, htx]; rfl
    have i2 : isT 6 [40] t = true := by unfold isT; rw [hk, htx]; rfl
    rw [facN, if_neg (by omega), if_neg (by omega), if_neg (by omega), i1, i2]; rfl
  have hn1 : t.kind ≠ 1 := by rw [hk]; decide
  have HKc : Hid (∀ w, RIs B b ta tn tc T r false m w → Calls Try.prog 46 #[.pointer (some ⟨b, 0, none⟩)] w (RPost B b ta tn tc T m (exprG (facN n) r) w)) := fun w h1 => HK r m w h1 hr
  generalize exprG (facN n) r = X2 at *
  clear hk htx HK
  clear h hA9 hb9 hp0 hok
  go_enter Try.func90, Try.ntmps90
  go_wp2_with fail
  refine HNx.out.mono ?_
  rintro e w2 ⟨rfl, hb2⟩
  obtain ⟨hT3, htb3, hs3⟩ := TR.start H0.out.1 hBb hb2
  have H3 : Hid (TR B b ta tn tc T w (w2.heap.size + 1) (t :: r) false m ⟨0, 0, [], (t.pl : Int)⟩ none 0 0 ((w2.alloc (.cells #[.int .i64 t.kind, .int .i64 t.num, .string (bs t.text), .int .i64 (t.pl : Int)] 48)).alloc (.cells #[.int .i64 0, .int .i64 0, .string ⟨#[]⟩, .slice none 0 0, .int .i64 (t.pl : Int)] 35)) ∧ ((w2.alloc (.cells #[.int .i64 t.kind, .int .i64 t.num, .string (bs t.text), .int .i64 (t.pl : Int)] 48)).alloc (.cells #[.int .i64 0, .int .i64 0, .string ⟨#[]⟩, .slice none 0 0, .int .i64 (t.pl : Int)] 35)).heap[w2.heap.size]? = some (.cells #[.int .i64 t.kind, .int .i64 t.num, .string (bs t.text), .int .i64 (t.pl : Int)] 48 (0, 0))) := ⟨hT3, htb3⟩
  obtain ⟨k, mv, hbk, hk4, hT4⟩ := hT3.step hn1
  have hb1 := blk (i := 1) hbk rfl
  have hf1 := blkf 1 hbk
  have tb0 := blk (i := 0) htb3 rfl
  have tb2 := blk (i := 2) htb3 rfl
  have H5 : Hid (TR B b ta tn tc T w (w2.heap.size + 1) r false m ⟨0, 0, [], (t.pl : Int)⟩ none 0 0 (((w2.alloc (.cells #[.int .i64 t.kind, .int .i64 t.num, .string (bs t.text), .int .i64 (t.pl : Int)] 48)).alloc (.cells #[.int .i64 0, .int .i64 0, .string ⟨#[]⟩, .slice none 0 0, .int .i64 (t.pl : Int)] 35)).setCell ⟨b, 1, none⟩ (.int .i64 ((k : Int) + 1)))) := hT4
  clear hb2 HNx hT3 htb3 hT4 hbk H3
  go_wp2_with fail
  refine (HKc.out _ H5.out.p).mono ?_
  rintro e w7 ⟨h2, k2, n2, c2, rfl, hk7, hp7, hE7⟩
  obtain ⟨t2, r2, hr2⟩ := hp7.here1
  have ht2 : WdT t2 := hT t2 (hp7.mem t2 (by rw [hr2]; simp))
  have HRs : Hid (X2.rest = t2 :: r2) := hr2
  have hT7 := H5.out.go hk7 hp7
  obtain ⟨hT8, hO8⟩ := hT7.put h2 k2 n2 c2 rfl
  obtain ⟨x0, x1, x2, x3, x4⟩ := hT7.sc
  have f7 := hT7.frz
  have H8 : Hid (TR B b ta tn tc T w (w2.heap.size + 1) X2.rest X2.val.isNone (m ++ X2.many) h2 k2 n2 c2 (((((w7.setCell ⟨w2.heap.size + 1, 0, none⟩ (.int .i64 h2.kind)).setCell ⟨w2.heap.size + 1, 1, none⟩ (.int .i64 h2.num)).setCell ⟨w2.heap.size + 1, 2, none⟩ (.string (bs h2.text))).setCell ⟨w2.heap.size + 1, 3, none⟩ (.slice k2 n2 c2)).setCell ⟨w2.heap.size + 1, 4, none⟩ (.int .i64 h2.pl)) ∧ ∀ a, X2.val = some a → a.1 = h2 ∧ ExAt true (fun g => w.heap.size ≤ g ∧ g ≠ w.heap.size ∧ g ≠ w2.heap.size + 1) (((((w7.setCell ⟨w2.heap.size + 1, 0, none⟩ (.int .i64 h2.kind)).setCell ⟨w2.heap.size + 1, 1, none⟩ (.int .i64 h2.num)).setCell ⟨w2.heap.size + 1, 2, none⟩ (.string (bs h2.text))).setCell ⟨w2.heap.size + 1, 3, none⟩ (.slice k2 n2 c2)).setCell ⟨w2.heap.size + 1, 4, none⟩ (.int .i64 h2.pl)) a k2 n2) := by
    refine ⟨hT8, fun a ha => ?_⟩
    obtain ⟨g1, g2⟩ := hE7 a ha
    have hz := lt_block H5.out.val
    have g3 : ExAt true (fun g => w.heap.size ≤ g ∧ g ≠ w.heap.size ∧ g ≠ w2.heap.size + 1) w7 a k2 n2 := g2.base fun g _ hg => by
      have h8 : _ ≤ g := hg
      exact ⟨by omega, by omega, by omega⟩
    exact ⟨g1, g3.keep fun g _ hg => hO8 g hg.2.2⟩
  have HWt : Hid (∀ W, RIs B b ta tn tc T X2.rest X2.val.isNone (m ++ X2.many) W → Calls Try.prog 45 #[.pointer (some ⟨b, 0, none⟩), .string ⟨#[41]⟩] W fun e w' => e = .returned (.tuple #[]) ∧ Kr B b W w' ∧ RIs B b ta tn tc T (if isW X2.val.isNone ⟨#[41]⟩ t2 then r2 else t2 :: r2) (!isW X2.val.isNone ⟨#[41]⟩ t2) (m ++ X2.many) w') := fun W hW => by
    rw [HRs.out] at hW
    exact hW.wantsC _ (by decide) ht2
  clear hk7 hp7 hE7 hT7 hT8 H5 HKc hO8 hr2 ht2
  go_wp2_with fail
  refine (HWt.out _ H8.out.1.p).mono ?_
  rintro e w9 ⟨rfl, hk9, hp9⟩
  have hT9 := H8.out.1.go hk9 hp9
  have HE9 : Hid (∀ a, X2.val = some a → a.1 = h2 ∧ ExAt true (fun g => w.heap.size ≤ g ∧ g ≠ w.heap.size ∧ g ≠ w2.heap.size + 1) w9 a k2 n2) := fun a ha => by
    obtain ⟨cs, hb⟩ := H8.out.1.p.own
    obtain ⟨g1, g2⟩ := H8.out.2 a ha
    exact ⟨g1, g2.kr hk9 hb⟩
  obtain ⟨a0, a1, a2, a3, a4⟩ := hT9.sc
  obtain ⟨z0, z1, z2, z3, z4, zf⟩ := hT9.zeros
  have HD : Hid _ := hT9.done rfl
  clear hk9 hp9 hT9 H8 HWt
  go_wp2
  refine bodyPost_ret (v := .agg #[.int .i64 (h2 : Hd).kind, .int .i64 (h2 : Hd).num, .string (bs (h2 : Hd).text), .slice k2 n2 c2, .int .i64 (h2 : Hd).pl]) ?_ rfl ?_
  · simp only [results, hres]
    go_simp
  · obtain ⟨d1, d2, d3⟩ := HD.out
    rw [HX.out]
    have hC : (closeG [41] X2).rest = (if isW X2.val.isNone ⟨#[41]⟩ t2 then r2 else t2 :: r2) ∧ (closeG [41] X2).val.isNone = (!isW X2.val.isNone ⟨#[41]⟩ t2) ∧ ((closeG [41] X2).val.isNone = false → (closeG [41] X2).many = X2.many) ∧ ∀ a, (closeG [41] X2).val = some a → X2.val = some a := by
      cases hv : X2.val with
      | none =>
        have hy : isW (none : Option Ex).isNone ⟨#[41]⟩ t2 = false := rfl
        unfold closeG
        rw [bind_none _ hv, hy]
        exact ⟨HRs.out, rfl, (fun e => by cases e), fun a ha => by cases ha⟩
      | some a =>
        have hy : isW (some a : Option Ex).isNone ⟨#[41]⟩ t2 = isT 6 [41] t2 := rfl
        unfold closeG
        rw [bind_some _ hv, HRs.out, hy, signG]
        cases hd : isT 6 [41] t2 with
        | true => exact ⟨rfl, rfl, (fun _ => by simp [pure', Rs.bind]), fun b hb => hb⟩
        | false => exact ⟨rfl, rfl, (fun e => by cases e), fun b hb => by cases hb⟩
    obtain ⟨y1, y2, y3, y4⟩ := hC
    refine ⟨h2, k2, n2, c2, rfl, d1, ?_, fun a ha => ?_⟩
    · cases hq : (closeG [41] X2).val.isNone with
      | true =>
        rw [hq] at y2
        rw [← y2, ← y1] at d2
        exact d2.any _
      | false =>
        rw [y3 hq]
        rw [← y2, ← y1, hq] at d2
        exact d2
    · obtain ⟨g1, g2⟩ := HE9.out a (y4 a ha)
      exact ⟨g1, (g2.keep fun g _ hg => d3 g hg.2.1).base fun g _ hg => hg.1⟩

set_option maxRecDepth 20000 in
set_option maxHeartbeats 4000000 in
theorem fR_no {B b : Nat} {ta : Option Addr} {tn tc : Nat} {T : List Tk} {m : List Int} (n : Nat) (w : World) {t : Tk} {r : List Tk} (h : RIs B b ta tn tc T (t :: r) false m w) (hBb : B ≤ b) (hq : ((t.kind == 4) = false ∧ (t.kind == 6) = false) ∨ ((t.kind == 4) = true ∧ (t.kind == 6) = false ∧ ((bs t.text).toList == [109, 105, 110]) = false ∧ ((bs t.text).toList == [109, 97, 120]) = false) ∨ ((t.kind == 4) = false ∧ (t.kind == 6) = true ∧ ((bs t.text).toList == [45]) = false ∧ ((bs t.text).toList == [40]) = false)) (k2 : (t.kind == 2) = false) (k3 : (t.kind == 3) = false) (k5 : (t.kind == 5) = false) (hX : facN (n + 1) (t :: r) = wrong' (t :: r)) :
    Calls Try.prog 90 #[.pointer (some ⟨b, 0, none⟩)] w (RPost B b ta tn tc T m (facN (n + 1) (t :: r)) w) := by
  have hres : Try.f90.results = #[.cell 2 35] := by kernel_rfl
  have hcp := h
  obtain ⟨m9, hA9, -⟩ := hcp
  obtain ⟨k9, mv9, mn9, -, -, hb9, -⟩ := hA9.block
  have hok := hA9.toks.fits t (hA9.mem t (by simp))
  have bw : ∀ o, (w.alloc o).cell? ⟨b, 2, none⟩ = some (.bool false) := fun o => keepc ((Below.refl w.heap.size w).alloc (Nat.le_refl _) o) (blk (i := 2) hb9 rfl)
  have hp0 : RIs B b ta tn tc T (t :: r) false m (w.alloc (.cells zero5 35)) := h.below ((Below.refl _ _).alloc (Nat.le_refl _) _)
  have HNx : Hid (Calls Try.prog 26 #[.pointer (some ⟨b, 0, none⟩)] (w.alloc (.cells zero5 35)) fun e w' => e = .returned (.agg #[.int .i64 t.kind, .int .i64 t.num, .string (bs t.text), .int .i64 (t.pl : Int)]) ∧ Below (w.alloc (.cells zero5 35)).heap.size (w.alloc (.cells zero5 35)) w') := hp0.nextC
  have H0 : Hid (RIs B b ta tn tc T (t :: r) false m w ∧ TkOk t) := ⟨h, hok⟩
  have hlt := h.lt
  have HX : Hid (facN (n + 1) (t :: r) = wrong' (t :: r)) := hX
  clear hX
  rcases hq with ⟨k4, k6⟩ | ⟨k4, k6, q1, q2⟩ | ⟨k4, k6, q1, q2⟩ <;> (
    clear h hA9 hb9 hp0 hok
    go_enter Try.func90, Try.ntmps90
    go_wp2_with fail
    refine HNx.out.mono ?_
    rintro e w2 ⟨rfl, hb2⟩
    obtain ⟨hT3, htb3, hs3⟩ := TR.start H0.out.1 hBb hb2
    have H3 : Hid (TR B b ta tn tc T w (w2.heap.size + 1) (t :: r) false m ⟨0, 0, [], (t.pl : Int)⟩ none 0 0 ((w2.alloc (.cells #[.int .i64 t.kind, .int .i64 t.num, .string (bs t.text), .int .i64 (t.pl : Int)] 48)).alloc (.cells #[.int .i64 0, .int .i64 0, .string ⟨#[]⟩, .slice none 0 0, .int .i64 (t.pl : Int)] 35)) ∧ ((w2.alloc (.cells #[.int .i64 t.kind, .int .i64 t.num, .string (bs t.text), .int .i64 (t.pl : Int)] 48)).alloc (.cells #[.int .i64 0, .int .i64 0, .string ⟨#[]⟩, .slice none 0 0, .int .i64 (t.pl : Int)] 35)).heap[w2.heap.size]? = some (.cells #[.int .i64 t.kind, .int .i64 t.num, .string (bs t.text), .int .i64 (t.pl : Int)] 48 (0, 0))) := ⟨hT3, htb3⟩
    obtain ⟨cs, hbk, hc2, hT4⟩ := hT3.wrong
    have hb1 := blk (i := 2) hbk hc2
    have hf1 := blkf 2 hbk
    have tb0 := blk (i := 0) htb3 rfl
    have tb2 := blk (i := 2) htb3 rfl
    obtain ⟨a0, a1, a2, a3, a4⟩ := hT4.sc
    obtain ⟨z0, z1, z2, z3, z4, zf⟩ := hT4.zeros
    have HD : Hid _ := hT4.done rfl
    clear hb2 HNx hT3 htb3 hT4 hbk H3 hc2
    go_wp2
    refine bodyPost_ret (v := .agg #[.int .i64 0, .int .i64 0, .string (bs ([] : List UInt8)), .slice none 0 0, .int .i64 (t.pl : Int)]) ?_ rfl ?_
    · simp only [results, hres]
      go_simp
    · obtain ⟨d1, d2, d3⟩ := HD.out
      rw [HX.out]
      exact ⟨⟨0, 0, [], (t.pl : Int)⟩, none, 0, 0, rfl, d1, d2.any _, fun a ha => by cases ha⟩)

end Go.Proofs.Ytnnmhmlebffacaa
namespace Go.Proofs.Ytnnmhmlebffacaa
open Go.RowKit Go.Deep

theorem RIs.zero {B b : Nat} {ta : Option Addr} {tn tc : Nat} {T : List Tk} {m : List Int} {bad : Bool} {w : World} {l : List Tk} (h : RIs B b ta tn tc T l bad m w) (hBb : B ≤ b) {W' : World}
    (hW : W' = ((((((w.alloc (.cells #[.int .i64 0, .int .i64 0, .string ⟨#[]⟩, .slice none 0 0, .int .i64 0] 35)).setCell ⟨w.heap.size, 0, none⟩ (.int .i64 0)).setCell ⟨w.heap.size, 1, none⟩ (.int .i64 0)).setCell ⟨w.heap.size, 2, none⟩ (.string ⟨#[]⟩)).setCell ⟨w.heap.size, 3, none⟩ (.slice none 0 0)).setCell ⟨w.heap.size, 4, none⟩ (.int .i64 0))) : Kr B b w W' ∧ RIs B b ta tn tc T l bad m W' := by
  have hlt := h.lt
  have hb0 : Below w.heap.size w (w.alloc (.cells #[.int .i64 0, .int .i64 0, .string ⟨#[]⟩, .slice none 0 0, .int .i64 0] 35)) := (Below.refl _ _).alloc (Nat.le_refl _) _
  have v0 := heap_alloc_new w (.cells #[.int .i64 0, .int .i64 0, .string ⟨#[]⟩, .slice none 0 0, .int .i64 0] 35)
  have ne : w.heap.size ≠ b := by omega
  have gB : B ≤ w.heap.size := by omega
  have v1 := heap_put (i := 0) (u := .int .i64 0) v0 rfl
  have v2 := heap_put (i := 1) (u := .int .i64 0) v1 rfl
  have v3 := heap_put (i := 2) (u := .string ⟨#[]⟩) v2 rfl
  have v4 := heap_put (i := 3) (u := .slice none 0 0) v3 rfl
  have hp := (((((h.below hb0).other ne gB v0 (by decide) 0 (.int .i64 0)).other ne gB v1 (by decide) 1 (.int .i64 0)).other ne gB v2 (by decide) 2 (.string ⟨#[]⟩)).other ne gB v3 (by decide) 3 (.slice none 0 0)).other ne gB v4 (by decide) 4 (.int .i64 0)
  have hk := (((((Kr.of_below (B := B) (b := b) hb0).setNew (Nat.le_refl _) 0 (.int .i64 0)).setNew (Nat.le_refl _) 1 (.int .i64 0)).setNew (Nat.le_refl _) 2 (.string ⟨#[]⟩)).setNew (Nat.le_refl _) 3 (.slice none 0 0)).setNew (Nat.le_refl _) 4 (.int .i64 0)
  rw [← hW] at hp hk
  exact ⟨hk, hp⟩
set_option maxRecDepth 20000 in
set_option maxHeartbeats 1000000 in
theorem fR_bad {B b : Nat} {ta : Option Addr} {tn tc : Nat} {T : List Tk} {m : List Int} (G : List Tk → Rs Ex) (w : World) {l : List Tk} (h : RIs B b ta tn tc T l true m w) (hBb : B ≤ b) :
    Calls Try.prog 90 #[.pointer (some ⟨b, 0, none⟩)] w (RPost B b ta tn tc T m (lift true G l) w) := by
  have hres : Try.f90.results = #[.cell 2 35] := by kernel_rfl
  have hcp := h
  obtain ⟨m9, hA9, -⟩ := hcp
  obtain ⟨k9, mv9, mn9, -, -, hb9, -⟩ := hA9.block
  have bw : ∀ o, (w.alloc o).cell? ⟨b, 2, none⟩ = some (.bool true) := fun o => keepc ((Below.refl w.heap.size w).alloc (Nat.le_refl _) o) (blk (i := 2) hb9 rfl)
  have hlt := h.lt
  have HP : Hid _ := h.zero hBb rfl
  have v0 := heap_alloc_new w (.cells #[.int .i64 0, .int .i64 0, .string ⟨#[]⟩, .slice none 0 0, .int .i64 0] 35)
  have z0 := blk (i := 0) v0 rfl
  have z1 := blk (i := 1) v0 rfl
  have z2 := blk (i := 2) v0 rfl
  have z3 := blk (i := 3) v0 rfl
  have z4 := blk (i := 4) v0 rfl
  have zf : ∀ i, (w.alloc (.cells #[.int .i64 0, .int .i64 0, .string ⟨#[]⟩, .slice none 0 0, .int .i64 0] 35)).frozen? ⟨w.heap.size, i, none⟩ = false := fun i => blkf i v0
  have hbb := bw (.cells #[.int .i64 0, .int .i64 0, .string ⟨#[]⟩, .slice none 0 0, .int .i64 0] 35)
  clear v0 bw
  clear h hA9 hb9
  go_enter Try.func90, Try.ntmps90
  go_upto_region 1 with (fail)
  generalize w.alloc (.cells #[.int .i64 0, .int .i64 0, .string ⟨#[]⟩, .slice none 0 0, .int .i64 0] 35) = w1 at *
  go_wp2
  refine bodyPost_ret (v := .agg #[.int .i64 0, .int .i64 0, .string ⟨#[]⟩, .slice none 0 0, .int .i64 0]) ?_ rfl ?_
  · simp only [results, hres]
    go_simp
  · exact ⟨⟨0, 0, [], 0⟩, none, 0, 0, rfl, HP.out.1, HP.out.2.any _, fun a ha => by cases ha⟩
end Go.Proofs.Ytnnmhmlebffacaa
