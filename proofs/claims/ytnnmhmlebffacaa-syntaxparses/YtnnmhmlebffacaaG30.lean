/-
  The document's factor: what has others within, what is none. The document's factor: signs, brackets, what is none.
-/
import Derived.Test.YtnnmhmlebffacaaG29
namespace Go.Proofs.Ytnnmhmlebffacaa
open Go.RowKit Go.Deep

theorem txt_is (t : Tk) (l : List UInt8) : ((bs t.text).toList == l) = decide (t.text = l) := by
  rw [bs_toList, Bool.eq_iff_iff]; simp

set_option maxRecDepth 20000 in
set_option maxHeartbeats 4000000 in
theorem fR_min {B b : Nat} {ta : Option Addr} {tn tc : Nat} {T : List Tk} {m : List Int} (n : Nat) (w : World) {t : Tk} {r : List Tk} (h : RIs B b ta tn tc T (t :: r) false m w) (hBb : B ≤ b) (hr : r.length ≤ n) (HK : ∀ l m w, RIs B b ta tn tc T l false m w → l.length ≤ n → Calls Try.prog 95 #[.pointer (some ⟨b, 0, none⟩)] w (KPost B b ta tn tc T m (kidsG (exprG (facN n)) l) w)) (hk : t.kind = 4) (htx : t.text = wMin) :
    Calls Try.prog 90 #[.pointer (some ⟨b, 0, none⟩)] w (RPost B b ta tn tc T m (facN (n + 1) (t :: r)) w) := by
  have hres : Try.f90.results = #[.cell 2 35] := by kernel_rfl
  have hcp := h
  obtain ⟨m9, hA9, -⟩ := hcp
  obtain ⟨k9, mv9, mn9, -, -, hb9, -⟩ := hA9.block
  have hok := hA9.toks.fits t (hA9.mem t (by simp))
  have bw : ∀ o, (w.alloc o).cell? ⟨b, 2, none⟩ = some (.bool false) := fun o => keepc ((Below.refl w.heap.size w).alloc (Nat.le_refl _) o) (blk (i := 2) hb9 rfl)
  have hp0 : RIs B b ta tn tc T (t :: r) false m (w.alloc (.cells zero5 35)) := h.below ((Below.refl _ _).alloc (Nat.le_refl _) _)
  have HNx : Hid (Calls Try.prog 26 #[.pointer (some ⟨b, 0, none⟩)] (w.alloc (.cells zero5 35)) fun e w' => e = .returned (.agg #[.int .i64 t.kind, .int .i64 t.num, .string (bs t.text), .int .i64 (t.pl : Int)]) ∧ Below (w.alloc (.cells zero5 35)).heap.size (w.alloc (.cells zero5 35)) w') := hp0.nextC
  have H0 : Hid (RIs B b ta tn tc T (t :: r) false m w ∧ TkOk t) := ⟨h, hok⟩
  have hlt := h.lt
  have k2 : (t.kind == 2) = false := by rw [beq_eq_false_iff_ne, hk]; decide
  have k3 : (t.kind == 3) = false := by rw [beq_eq_false_iff_ne, hk]; decide
  have k5 : (t.kind == 5) = false := by rw [beq_eq_false_iff_ne, hk]; decide
  have k4 : (t.kind == 4) = true := by rw [beq_iff_eq]; exact hk
  have q1 : ((bs t.text).toList == [109, 105, 110]) = true := by rw [txt_is, htx]; rfl
  have q2 : ((bs t.text).toList == [109, 97, 120]) = false := by rw [txt_is, htx]; rfl
  have HX : Hid (facN (n + 1) (t :: r) = (kidsG (exprG (facN n)) r).map fun ks => (hdB 8 t, ofL ks)) := by
    show _ = _
    have i1 : isT 6 [45] t = false := by unfold isT; rw [hk]; rfl
    have i2 : isT 6 [40] t = false := by unfold isT; rw [hk]; rfl
    have i3 : isT 4 wMin t = true := by unfold isT; rw [hk, htx]; rfl
    rw [facN, if_neg (by omega), if_neg (by omega), if_neg (by omega), i1, i2, i3]; rfl
  have hn1 : t.kind ≠ 1 := by rw [hk]; decide
  have HKc : Hid (∀ w, RIs B b ta tn tc T r false m w → Calls Try.prog 95 #[.pointer (some ⟨b, 0, none⟩)] w (KPost B b ta tn tc T m (kidsG (exprG (facN n)) r) w)) := fun w h1 => HK r m w h1 hr
  clear hk htx HK
  clear h hA9 hb9 hp0 hok
  go_enter Try.func90, Try.ntmps90
  go_wp2_with fail
  refine HNx.out.mono ?_
  rintro e w2 ⟨rfl, hb2⟩
  obtain ⟨hT3, htb3, hs3⟩ := TR.start H0.out.1 hBb hb2
  have H3 : Hid (TR B b ta tn tc T w (w2.heap.size + 1) (t :: r) false m ⟨0, 0, [], (t.pl : Int)⟩ none 0 0 ((w2.alloc (.cells #[.int .i64 t.kind, .int .i64 t.num, .string (bs t.text), .int .i64 (t.pl : Int)] 48)).alloc (.cells #[.int .i64 0, .int .i64 0, .string ⟨#[]⟩, .slice none 0 0, .int .i64 (t.pl : Int)] 35)) ∧ ((w2.alloc (.cells #[.int .i64 t.kind, .int .i64 t.num, .string (bs t.text), .int .i64 (t.pl : Int)] 48)).alloc (.cells #[.int .i64 0, .int .i64 0, .string ⟨#[]⟩, .slice none 0 0, .int .i64 (t.pl : Int)] 35)).heap[w2.heap.size]? = some (.cells #[.int .i64 t.kind, .int .i64 t.num, .string (bs t.text), .int .i64 (t.pl : Int)] 48 (0, 0))) := ⟨hT3, htb3⟩
  obtain ⟨k, mv, hbk, hk4, hT4⟩ := hT3.step hn1
  have hb1 := blk (i := 1) hbk rfl
  have hf1 := blkf 1 hbk
  have tb0 := blk (i := 0) htb3 rfl
  have tb2 := blk (i := 2) htb3 rfl
  have hT5 := hT4.set 0 (.int .i64 8) (hdB 8 t) none 0 0 rfl
  have tb5 : ((((w2.alloc (.cells #[.int .i64 t.kind, .int .i64 t.num, .string (bs t.text), .int .i64 (t.pl : Int)] 48)).alloc (.cells #[.int .i64 0, .int .i64 0, .string ⟨#[]⟩, .slice none 0 0, .int .i64 (t.pl : Int)] 35)).setCell ⟨b, 1, none⟩ (.int .i64 ((k : Int) + 1))).setCell ⟨w2.heap.size + 1, 0, none⟩ (.int .i64 8)).heap[w2.heap.size]? = some (.cells #[.int .i64 t.kind, .int .i64 t.num, .string (bs t.text), .int .i64 (t.pl : Int)] 48 (0, 0)) := heap_other (heap_other htb3 (by omega)) (by omega)
  have tu := blk (i := 2) tb5 rfl
  have x0 := hT4.sc.1
  have f4 := hT4.frz
  have H5 : Hid (TR B b ta tn tc T w (w2.heap.size + 1) r false m (hdB 8 t) none 0 0 ((((w2.alloc (.cells #[.int .i64 t.kind, .int .i64 t.num, .string (bs t.text), .int .i64 (t.pl : Int)] 48)).alloc (.cells #[.int .i64 0, .int .i64 0, .string ⟨#[]⟩, .slice none 0 0, .int .i64 (t.pl : Int)] 35)).setCell ⟨b, 1, none⟩ (.int .i64 ((k : Int) + 1))).setCell ⟨w2.heap.size + 1, 0, none⟩ (.int .i64 8))) := hT5
  clear hb2 HNx hT3 htb3 hT4 hT5 hbk H3 tb5
  go_wp2_with fail
  refine (HKc.out _ H5.out.p).mono ?_
  rintro e w7 ⟨ao, n7, c7, rfl, hk7, hp7, hF7⟩
  have hT7 := H5.out.go hk7 hp7
  have hT8 := hT7.set 3 (.slice ao n7 c7) (hdB 8 t) ao n7 c7 rfl
  have x7 := hT7.sc.2.2.2.1
  have f7 := hT7.frz
  obtain ⟨a0, a1, a2, a3, a4⟩ := hT8.sc
  obtain ⟨z0, z1, z2, z3, z4, zf⟩ := hT8.zeros
  have HD : Hid _ := hT8.done rfl
  have HF7 : Hid (∀ ks, (kidsG (exprG (facN n)) r).val = some ks → n7 ≤ maxLen ∧ FoAt true (fun g => w.heap.size ≤ g ∧ g ≠ w.heap.size ∧ g ≠ w2.heap.size + 1) (w7.setCell ⟨w2.heap.size + 1, 3, none⟩ (.slice ao n7 c7)) (ofL ks) ao n7) := fun ks hks => by
    obtain ⟨g1, g2⟩ := hF7 ks hks
    have g3 : FoAt true (fun g => w.heap.size ≤ g ∧ g ≠ w.heap.size ∧ g ≠ w2.heap.size + 1) w7 (ofL ks) ao n7 := g2.base fun g _ hg => by
      have h9 := lt_block H5.out.val
      have h8 : _ ≤ g := hg
      exact ⟨by omega, by omega, by omega⟩
    exact ⟨g1, foAt_keep (fun g _ hg => heap_other rfl hg.2.2) g3⟩
  clear hk7 hp7 hF7 hT7 hT8 H5 HKc
  go_wp2
  refine bodyPost_ret (v := .agg #[.int .i64 (hdB 8 t : Hd).kind, .int .i64 (hdB 8 t : Hd).num, .string (bs (hdB 8 t : Hd).text), .slice ao n7 c7, .int .i64 (hdB 8 t : Hd).pl]) ?_ rfl ?_
  · simp only [results, hres]
    go_simp
  · obtain ⟨d1, d2, d3⟩ := HD.out
    rw [HX.out]
    refine ⟨hdB 8 t, ao, n7, c7, rfl, d1, ?_, fun a ha => ?_⟩
    · have e9 : ((kidsG (exprG (facN n)) r).map fun ks => (hdB 8 t, ofL ks)).val.isNone = (kidsG (exprG (facN n)) r).val.isNone := by
        show ((kidsG (exprG (facN n)) r).val.map _).isNone = _
        cases (kidsG (exprG (facN n)) r).val <;> rfl
      rw [e9]; exact d2
    · have ha' : (kidsG (exprG (facN n)) r).val.map (fun ks => (hdB 8 t, ofL ks)) = some a := ha
      cases hv : (kidsG (exprG (facN n)) r).val with
      | none => rw [hv] at ha'; cases ha'
      | some ks =>
        rw [hv] at ha'
        cases ha'
        obtain ⟨g1, g2⟩ := HF7.out ks hv
        exact ⟨rfl, small_ok (by omega) H0.out.2.pl, g1, (foAt_keep (fun g _ hg => d3 g hg.2.1) g2).base fun g _ hg => hg.1⟩

set_option maxRecDepth 20000 in
set_option maxHeartbeats 4000000 in
theorem fR_max {B b : Nat} {ta : Option Addr} {tn tc : Nat} {T : List Tk} {m : List Int} (n : Nat) (w : World) {t : Tk} {r : List Tk} (h : RIs B b ta tn tc T (t :: r) false m w) (hBb : B ≤ b) (hr : r.length ≤ n) (HK : ∀ l m w, RIs B b ta tn tc T l false m w → l.length ≤ n → Calls Try.prog 95 #[.pointer (some ⟨b, 0, none⟩)] w (KPost B b ta tn tc T m (kidsG (exprG (facN n)) l) w)) (hk : t.kind = 4) (htx : t.text = wMax) :
    Calls Try.prog 90 #[.pointer (some ⟨b, 0, none⟩)] w (RPost B b ta tn tc T m (facN (n + 1) (t :: r)) w) := by
  have hres : Try.f90.results = #[.cell 2 35] := by kernel_rfl
  have hcp := h
  obtain ⟨m9, hA9, -⟩ := hcp
  obtain ⟨k9, mv9, mn9, -, -, hb9, -⟩ := hA9.block
  have hok := hA9.toks.fits t (hA9.mem t (by simp))
  have bw : ∀ o, (w.alloc o).cell? ⟨b, 2, none⟩ = some (.bool false) := fun o => keepc ((Below.refl w.heap.size w).alloc (Nat.le_refl _) o) (blk (i := 2) hb9 rfl)
  have hp0 : RIs B b ta tn tc T (t :: r) false m (w.alloc (.cells zero5 35)) := h.below ((Below.refl _ _).alloc (Nat.le_refl _) _)
  have HNx : Hid (Calls Try.prog 26 #[.pointer (some ⟨b, 0, none⟩)] (w.alloc (.cells zero5 35)) fun e w' => e = .returned (.agg #[.int .i64 t.kind, .int .i64 t.num, .string (bs t.text), .int .i64 (t.pl : Int)]) ∧ Below (w.alloc (.cells zero5 35)).heap.size (w.alloc (.cells zero5 35)) w') := hp0.nextC
  have H0 : Hid (RIs B b ta tn tc T (t :: r) false m w ∧ TkOk t) := ⟨h, hok⟩
  have hlt := h.lt
  have k2 : (t.kind == 2) = false := by rw [beq_eq_false_iff_ne, hk]; decide
  have k3 : (t.kind == 3) = false := by rw [beq_eq_false_iff_ne, hk]; decide
  have k5 : (t.kind == 5) = false := by rw [beq_eq_false_iff_ne, hk]; decide
  have k4 : (t.kind == 4) = true := by rw [beq_iff_eq]; exact hk
  have q1 : ((bs t.text).toList == [109, 105, 110]) = false := by rw [txt_is, htx]; rfl
  have q2 : ((bs t.text).toList == [109, 97, 120]) = true := by rw [txt_is, htx]; rfl
  have HX : Hid (facN (n + 1) (t :: r) = (kidsG (exprG (facN n)) r).map fun ks => (hdB 9 t, ofL ks)) := by
    show _ = _
    have i1 : isT 6 [45] t = false := by unfold isT; rw [hk]; rfl
    have i2 : isT 6 [40] t = false := by unfold isT; rw [hk]; rfl
    have i3 : isT 4 wMin t = false := by unfold isT; rw [hk, htx]; rfl
    have i4 : isT 4 wMax t = true := by unfold isT; rw [hk, htx]; rfl
    rw [facN, if_neg (by omega), if_neg (by omega), if_neg (by omega), i1, i2, i3, i4]; rfl
  have hn1 : t.kind ≠ 1 := by rw [hk]; decide
  have HKc : Hid (∀ w, RIs B b ta tn tc T r false m w → Calls Try.prog 95 #[.pointer (some ⟨b, 0, none⟩)] w (KPost B b ta tn tc T m (kidsG (exprG (facN n)) r) w)) := fun w h1 => HK r m w h1 hr
  clear hk htx HK
  clear h hA9 hb9 hp0 hok
  go_enter Try.func90, Try.ntmps90
  go_wp2_with fail
  refine HNx.out.mono ?_
  rintro e w2 ⟨rfl, hb2⟩
  obtain ⟨hT3, htb3, hs3⟩ := TR.start H0.out.1 hBb hb2
  have H3 : Hid (TR B b ta tn tc T w (w2.heap.size + 1) (t :: r) false m ⟨0, 0, [], (t.pl : Int)⟩ none 0 0 ((w2.alloc (.cells #[.int .i64 t.kind, .int .i64 t.num, .string (bs t.text), .int .i64 (t.pl : Int)] 48)).alloc (.cells #[.int .i64 0, .int .i64 0, .string ⟨#[]⟩, .slice none 0 0, .int .i64 (t.pl : Int)] 35)) ∧ ((w2.alloc (.cells #[.int .i64 t.kind, .int .i64 t.num, .string (bs t.text), .int .i64 (t.pl : Int)] 48)).alloc (.cells #[.int .i64 0, .int .i64 0, .string ⟨#[]⟩, .slice none 0 0, .int .i64 (t.pl : Int)] 35)).heap[w2.heap.size]? = some (.cells #[.int .i64 t.kind, .int .i64 t.num, .string (bs t.text), .int .i64 (t.pl : Int)] 48 (0, 0))) := ⟨hT3, htb3⟩
  obtain ⟨k, mv, hbk, hk4, hT4⟩ := hT3.step hn1
  have hb1 := blk (i := 1) hbk rfl
  have hf1 := blkf 1 hbk
  have tb0 := blk (i := 0) htb3 rfl
  have tb2 := blk (i := 2) htb3 rfl
  have hT5 := hT4.set 0 (.int .i64 8) (hdB 8 t) none 0 0 rfl
  have tb5 : ((((w2.alloc (.cells #[.int .i64 t.kind, .int .i64 t.num, .string (bs t.text), .int .i64 (t.pl : Int)] 48)).alloc (.cells #[.int .i64 0, .int .i64 0, .string ⟨#[]⟩, .slice none 0 0, .int .i64 (t.pl : Int)] 35)).setCell ⟨b, 1, none⟩ (.int .i64 ((k : Int) + 1))).setCell ⟨w2.heap.size + 1, 0, none⟩ (.int .i64 8)).heap[w2.heap.size]? = some (.cells #[.int .i64 t.kind, .int .i64 t.num, .string (bs t.text), .int .i64 (t.pl : Int)] 48 (0, 0)) := heap_other (heap_other htb3 (by omega)) (by omega)
  have tu := blk (i := 2) tb5 rfl
  have x0 := hT4.sc.1
  have f4 := hT4.frz
  have hT6 := hT5.set 0 (.int .i64 9) (hdB 9 t) none 0 0 rfl
  have x5 := hT5.sc.1
  have f5 := hT5.frz
  have H5 : Hid (TR B b ta tn tc T w (w2.heap.size + 1) r false m (hdB 9 t) none 0 0 (((((w2.alloc (.cells #[.int .i64 t.kind, .int .i64 t.num, .string (bs t.text), .int .i64 (t.pl : Int)] 48)).alloc (.cells #[.int .i64 0, .int .i64 0, .string ⟨#[]⟩, .slice none 0 0, .int .i64 (t.pl : Int)] 35)).setCell ⟨b, 1, none⟩ (.int .i64 ((k : Int) + 1))).setCell ⟨w2.heap.size + 1, 0, none⟩ (.int .i64 8)).setCell ⟨w2.heap.size + 1, 0, none⟩ (.int .i64 9))) := hT6
  clear hb2 HNx hT3 htb3 hT4 hT5 hT6 hbk H3 tb5
  go_wp2_with fail
  refine (HKc.out _ H5.out.p).mono ?_
  rintro e w7 ⟨ao, n7, c7, rfl, hk7, hp7, hF7⟩
  have hT7 := H5.out.go hk7 hp7
  have hT8 := hT7.set 3 (.slice ao n7 c7) (hdB 9 t) ao n7 c7 rfl
  have x7 := hT7.sc.2.2.2.1
  have f7 := hT7.frz
  obtain ⟨a0, a1, a2, a3, a4⟩ := hT8.sc
  obtain ⟨z0, z1, z2, z3, z4, zf⟩ := hT8.zeros
  have HD : Hid _ := hT8.done rfl
  have HF7 : Hid (∀ ks, (kidsG (exprG (facN n)) r).val = some ks → n7 ≤ maxLen ∧ FoAt true (fun g => w.heap.size ≤ g ∧ g ≠ w.heap.size ∧ g ≠ w2.heap.size + 1) (w7.setCell ⟨w2.heap.size + 1, 3, none⟩ (.slice ao n7 c7)) (ofL ks) ao n7) := fun ks hks => by
    obtain ⟨g1, g2⟩ := hF7 ks hks
    have g3 : FoAt true (fun g => w.heap.size ≤ g ∧ g ≠ w.heap.size ∧ g ≠ w2.heap.size + 1) w7 (ofL ks) ao n7 := g2.base fun g _ hg => by
      have h9 := lt_block H5.out.val
      have h8 : _ ≤ g := hg
      exact ⟨by omega, by omega, by omega⟩
    exact ⟨g1, foAt_keep (fun g _ hg => heap_other rfl hg.2.2) g3⟩
  clear hk7 hp7 hF7 hT7 hT8 H5 HKc
  go_wp2
  refine bodyPost_ret (v := .agg #[.int .i64 (hdB 9 t : Hd).kind, .int .i64 (hdB 9 t : Hd).num, .string (bs (hdB 9 t : Hd).text), .slice ao n7 c7, .int .i64 (hdB 9 t : Hd).pl]) ?_ rfl ?_
  · simp only [results, hres]
    go_simp
  · obtain ⟨d1, d2, d3⟩ := HD.out
    rw [HX.out]
    refine ⟨hdB 9 t, ao, n7, c7, rfl, d1, ?_, fun a ha => ?_⟩
    · have e9 : ((kidsG (exprG (facN n)) r).map fun ks => (hdB 9 t, ofL ks)).val.isNone = (kidsG (exprG (facN n)) r).val.isNone := by
        show ((kidsG (exprG (facN n)) r).val.map _).isNone = _
        cases (kidsG (exprG (facN n)) r).val <;> rfl
      rw [e9]; exact d2
    · have ha' : (kidsG (exprG (facN n)) r).val.map (fun ks => (hdB 9 t, ofL ks)) = some a := ha
      cases hv : (kidsG (exprG (facN n)) r).val with
      | none => rw [hv] at ha'; cases ha'
      | some ks =>
        rw [hv] at ha'
        cases ha'
        obtain ⟨g1, g2⟩ := HF7.out ks hv
        exact ⟨rfl, small_ok (by omega) H0.out.2.pl, g1, (foAt_keep (fun g _ hg => d3 g hg.2.1) g2).base fun g _ hg => hg.1⟩

end Go.Proofs.Ytnnmhmlebffacaa
namespace Go.Proofs.Ytnnmhmlebffacaa
open Go.RowKit Go.Deep

set_option maxRecDepth 20000 in
set_option maxHeartbeats 4000000 in
theorem fR_neg {B b : Nat} {ta : Option Addr} {tn tc : Nat} {T : List Tk} {m : List Int} (n : Nat) (w : World) {t : Tk} {r : List Tk} (h : RIs B b ta tn tc T (t :: r) false m w) (hBb : B ≤ b) (hr : r.length ≤ n) (HK : ∀ l m w, RIs B b ta tn tc T l false m w → l.length ≤ n → Calls Try.prog 90 #[.pointer (some ⟨b, 0, none⟩)] w (RPost B b ta tn tc T m (facN n l) w)) (hk : t.kind = 6) (htx : t.text = [45]) :
    Calls Try.prog 90 #[.pointer (some ⟨b, 0, none⟩)] w (RPost B b ta tn tc T m (facN (n + 1) (t :: r)) w) := by
  have hres : Try.f90.results = #[.cell 2 35] := by kernel_rfl
  have hcp := h
  obtain ⟨m9, hA9, -⟩ := hcp
  obtain ⟨k9, mv9, mn9, -, -, hb9, -⟩ := hA9.block
  have hok := hA9.toks.fits t (hA9.mem t (by simp))
  have bw : ∀ o, (w.alloc o).cell? ⟨b, 2, none⟩ = some (.bool false) := fun o => keepc ((Below.refl w.heap.size w).alloc (Nat.le_refl _) o) (blk (i := 2) hb9 rfl)
  have hp0 : RIs B b ta tn tc T (t :: r) false m (w.alloc (.cells zero5 35)) := h.below ((Below.refl _ _).alloc (Nat.le_refl _) _)
  have HNx : Hid (Calls Try.prog 26 #[.pointer (some ⟨b, 0, none⟩)] (w.alloc (.cells zero5 35)) fun e w' => e = .returned (.agg #[.int .i64 t.kind, .int .i64 t.num, .string (bs t.text), .int .i64 (t.pl : Int)]) ∧ Below (w.alloc (.cells zero5 35)).heap.size (w.alloc (.cells zero5 35)) w') := hp0.nextC
  have H0 : Hid (RIs B b ta tn tc T (t :: r) false m w ∧ TkOk t) := ⟨h, hok⟩
  have hlt := h.lt
  have k2 : (t.kind == 2) = false := by rw [beq_eq_false_iff_ne, hk]; decide
  have k3 : (t.kind == 3) = false := by rw [beq_eq_false_iff_ne, hk]; decide
  have k5 : (t.kind == 5) = false := by rw [beq_eq_false_iff_ne, hk]; decide
  have k4 : (t.kind == 4) = false := by rw [beq_eq_false_iff_ne, hk]; decide
  have k6 : (t.kind == 6) = true := by rw [beq_iff_eq]; exact hk
  have q1 : ((bs t.text).toList == [45]) = true := by rw [txt_is, htx]; rfl
  have HX : Hid (facN (n + 1) (t :: r) = (facN n r).map fun e => (hdB 4 t, ofL [e])) := by
    show _ = _
    have i1 : isT 6 [45] t = true := by unfold isT; rw [hk, htx]; rfl
    rw [facN, if_neg (by omega), if_neg (by omega), if_neg (by omega), i1]; rfl
  have hn1 : t.kind ≠ 1 := by rw [hk]; decide
  have HKc : Hid (∀ w, RIs B b ta tn tc T r false m w → Calls Try.prog 90 #[.pointer (some ⟨b, 0, none⟩)] w (RPost B b ta tn tc T m (facN n r) w)) := fun w h1 => HK r m w h1 hr
  clear hk htx HK
  clear h hA9 hb9 hp0 hok
  go_enter Try.func90, Try.ntmps90
  go_wp2_with fail
  refine HNx.out.mono ?_
  rintro e w2 ⟨rfl, hb2⟩
  obtain ⟨hT3, htb3, hs3⟩ := TR.start H0.out.1 hBb hb2
  have H3 : Hid (TR B b ta tn tc T w (w2.heap.size + 1) (t :: r) false m ⟨0, 0, [], (t.pl : Int)⟩ none 0 0 ((w2.alloc (.cells #[.int .i64 t.kind, .int .i64 t.num, .string (bs t.text), .int .i64 (t.pl : Int)] 48)).alloc (.cells #[.int .i64 0, .int .i64 0, .string ⟨#[]⟩, .slice none 0 0, .int .i64 (t.pl : Int)] 35)) ∧ ((w2.alloc (.cells #[.int .i64 t.kind, .int .i64 t.num, .string (bs t.text), .int .i64 (t.pl : Int)] 48)).alloc (.cells #[.int .i64 0, .int .i64 0, .string ⟨#[]⟩, .slice none 0 0, .int .i64 (t.pl : Int)] 35)).heap[w2.heap.size]? = some (.cells #[.int .i64 t.kind, .int .i64 t.num, .string (bs t.text), .int .i64 (t.pl : Int)] 48 (0, 0))) := ⟨hT3, htb3⟩
  obtain ⟨k, mv, hbk, hk4, hT4⟩ := hT3.step hn1
  have hb1 := blk (i := 1) hbk rfl
  have hf1 := blkf 1 hbk
  have tb0 := blk (i := 0) htb3 rfl
  have tb2 := blk (i := 2) htb3 rfl
  have hT5 := hT4.set 0 (.int .i64 4) (hdB 4 t) none 0 0 rfl
  have x0 := hT4.sc.1
  have f4 := hT4.frz
  have H5 : Hid (TR B b ta tn tc T w (w2.heap.size + 1) r false m (hdB 4 t) none 0 0 ((((w2.alloc (.cells #[.int .i64 t.kind, .int .i64 t.num, .string (bs t.text), .int .i64 (t.pl : Int)] 48)).alloc (.cells #[.int .i64 0, .int .i64 0, .string ⟨#[]⟩, .slice none 0 0, .int .i64 (t.pl : Int)] 35)).setCell ⟨b, 1, none⟩ (.int .i64 ((k : Int) + 1))).setCell ⟨w2.heap.size + 1, 0, none⟩ (.int .i64 4))) := hT5
  clear hb2 HNx hT3 htb3 hT4 hT5 hbk H3
  go_wp2_with fail
  refine (HKc.out _ H5.out.p).mono ?_
  rintro e w7 ⟨h2, k2, n2, c2, rfl, hk7, hp7, hE7⟩
  have hT7 := H5.out.go hk7 hp7
  have hT8 := hT7.next (below_two w7 (.cells #[.int .i64 h2.kind, .int .i64 h2.num, .string (bs h2.text), .slice k2 n2 c2, .int .i64 h2.pl] 35) (.cells #[.int .i64 h2.kind, .int .i64 h2.num, .string (bs h2.text), .slice k2 n2 c2, .int .i64 h2.pl] 35))
  have hT9 := hT8.set 3 (.slice (some ⟨w7.heap.size + 1, 0, none⟩) 1 1) (hdB 4 t) (some ⟨w7.heap.size + 1, 0, none⟩) 1 1 rfl
  have x7 := hT8.sc.2.2.2.1
  have f7 := hT8.frz
  obtain ⟨a0, a1, a2, a3, a4⟩ := hT9.sc
  obtain ⟨z0, z1, z2, z3, z4, zf⟩ := hT9.zeros
  have HD : Hid _ := hT9.done rfl
  have HF7 : Hid (∀ a, (facN n r).val = some a → FoAt true (fun g => w.heap.size ≤ g ∧ g ≠ w.heap.size ∧ g ≠ w2.heap.size + 1) (((w7.alloc (.cells #[.int .i64 h2.kind, .int .i64 h2.num, .string (bs h2.text), .slice k2 n2 c2, .int .i64 h2.pl] 35)).alloc (.cells #[.int .i64 h2.kind, .int .i64 h2.num, .string (bs h2.text), .slice k2 n2 c2, .int .i64 h2.pl] 35)).setCell ⟨w2.heap.size + 1, 3, none⟩ (.slice (some ⟨w7.heap.size + 1, 0, none⟩) 1 1)) (ofL [a]) (some ⟨w7.heap.size + 1, 0, none⟩) 1) := fun a ha => by
    obtain ⟨g1, g2⟩ := hE7 a ha
    subst g1
    have hz := lt_block H5.out.val
    have hz7 := hk7.size
    have g3 : ExAt true (fun g => w.heap.size ≤ g ∧ g ≠ w.heap.size ∧ g ≠ w2.heap.size + 1) (w7.alloc (.cells #[.int .i64 a.1.kind, .int .i64 a.1.num, .string (bs a.1.text), .slice k2 n2 c2, .int .i64 a.1.pl] 35)) a k2 n2 := (g2.base fun g _ hg => by
      have h8 : _ ≤ g := hg
      exact ⟨by omega, by omega, by omega⟩).below ((Below.refl _ _).alloc (Nat.le_refl _) _)
    have hN := one_new (o := true) (S := fun g => w.heap.size ≤ g ∧ g ≠ w.heap.size ∧ g ≠ w2.heap.size + 1) (kc := c2) (by simp; omega) g3
    rw [show (w7.alloc (.cells #[.int .i64 a.1.kind, .int .i64 a.1.num, .string (bs a.1.text), .slice k2 n2 c2, .int .i64 a.1.pl] 35)).heap.size = w7.heap.size + 1 by simp] at hN
    exact foAt_keep (fun g _ hg => heap_other rfl hg.2.2) hN
  clear hk7 hp7 hE7 hT7 hT8 hT9 H5 HKc
  go_wp2
  refine bodyPost_ret (v := .agg #[.int .i64 (hdB 4 t : Hd).kind, .int .i64 (hdB 4 t : Hd).num, .string (bs (hdB 4 t : Hd).text), .slice (some ⟨w7.heap.size + 1, 0, none⟩) 1 1, .int .i64 (hdB 4 t : Hd).pl]) ?_ rfl ?_
  · simp only [results, hres]
    go_simp
  · obtain ⟨d1, d2, d3⟩ := HD.out
    rw [HX.out]
    refine ⟨hdB 4 t, some ⟨w7.heap.size + 1, 0, none⟩, 1, 1, rfl, d1, ?_, fun a ha => ?_⟩
    · have e9 : ((facN n r).map fun e => (hdB 4 t, ofL [e])).val.isNone = (facN n r).val.isNone := by
        show ((facN n r).val.map _).isNone = _
        cases (facN n r).val <;> rfl
      rw [e9]; exact d2
    · have ha' : (facN n r).val.map (fun e => (hdB 4 t, ofL [e])) = some a := ha
      cases hv : (facN n r).val with
      | none => rw [hv] at ha'; cases ha'
      | some e2 =>
        rw [hv] at ha'
        cases ha'
        exact ⟨rfl, small_ok (by omega) H0.out.2.pl, by decide, (foAt_keep (fun g _ hg => d3 g hg.2.1) (HF7.out e2 hv)).base fun g _ hg => hg.1⟩

end Go.Proofs.Ytnnmhmlebffacaa
