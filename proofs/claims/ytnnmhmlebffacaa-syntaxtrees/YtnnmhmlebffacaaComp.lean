/-
  Factors that have others within.
-/
import Derived.Test.YtnnmhmlebffacaaKids
import Derived.Test.YtnnmhmlebffacaaExpr
namespace Go.Proofs.Ytnnmhmlebffacaa
open Go.RowKit Go.Deep

/-- The parser, and the result's variable. -/
structure CL (b : Nat) (ta : Option Addr) (tn tc : Nat) (T : List Tk) (w : World) (l : List Tk) (f : Int × Int) (W : World) : Prop where
  p : PAt b ta tn tc T l f W
  kp : Kp b w W
  nb : b < w.heap.size
  res : W.heap[w.heap.size]? = some (.cells zero5 35 (0, 0))
section
variable {b : Nat} {ta : Option Addr} {tn tc : Nat} {T : List Tk} {w : World} {l : List Tk} {f : Int × Int} {W W' : World}
theorem CL.start (h : PAt b ta tn tc T l f w) : CL b ta tn tc T w l f (w.alloc (.cells zero5 35)) :=
  ⟨h.below ((Below.refl _ _).alloc (Nat.le_refl _) _), (Kp.refl b w).alloc _, h.lt, heap_alloc_new w _⟩
theorem CL.go (h : CL b ta tn tc T w l f W) (hk : Kp b W W') {l' : List Tk} {f' : Int × Int} (hp : PAt b ta tn tc T l' f' W') : CL b ta tn tc T w l' f' W' :=
  ⟨hp, h.kp.trans hk, h.nb, by rw [hk.block _ (lt_block h.res) (by have := h.nb; omega)]; exact h.res⟩
theorem CL.next (h : CL b ta tn tc T w l f W) (hk : Below W.heap.size W W') : CL b ta tn tc T w l f W' := h.go (Kp.of_below hk) (h.p.below hk)
theorem CL.zeros (h : CL b ta tn tc T w l f W) : W.cell? ⟨w.heap.size, 0, none⟩ = some (.int .i64 0) ∧ W.cell? ⟨w.heap.size, 1, none⟩ = some (.int .i64 0) ∧ W.cell? ⟨w.heap.size, 2, none⟩ = some (.string ⟨#[]⟩) ∧ W.cell? ⟨w.heap.size, 3, none⟩ = some (.slice none 0 0) ∧ W.cell? ⟨w.heap.size, 4, none⟩ = some (.int .i64 0) ∧ ∀ i, W.frozen? ⟨w.heap.size, i, none⟩ = false :=
  ⟨blk h.res rfl, blk h.res rfl, blk h.res rfl, blk h.res rfl, blk h.res rfl, fun i => blkf i h.res⟩
theorem CL.size (h : CL b ta tn tc T w l f W) : w.heap.size < W.heap.size := lt_block h.res
/-- The result's variable takes an expression. -/
theorem CL.done (h : CL b ta tn tc T w l f W) {e : Ex} {ka : Option Addr} {kn kc : Nat} (hx : ExAt true (fun g => w.heap.size < g) W e ka kn) :
    Kp b w (((((W.setCell ⟨w.heap.size, 0, none⟩ (.int .i64 e.1.kind)).setCell ⟨w.heap.size, 1, none⟩ (.int .i64 e.1.num)).setCell ⟨w.heap.size, 2, none⟩ (.string (bs e.1.text))).setCell ⟨w.heap.size, 3, none⟩ (.slice ka kn kc)).setCell ⟨w.heap.size, 4, none⟩ (.int .i64 e.1.pl)) ∧
    PAt b ta tn tc T l f (((((W.setCell ⟨w.heap.size, 0, none⟩ (.int .i64 e.1.kind)).setCell ⟨w.heap.size, 1, none⟩ (.int .i64 e.1.num)).setCell ⟨w.heap.size, 2, none⟩ (.string (bs e.1.text))).setCell ⟨w.heap.size, 3, none⟩ (.slice ka kn kc)).setCell ⟨w.heap.size, 4, none⟩ (.int .i64 e.1.pl)) ∧
    VEx w.heap.size e (.agg #[.int .i64 e.1.kind, .int .i64 e.1.num, .string (bs e.1.text), .slice ka kn kc, .int .i64 e.1.pl]) (((((W.setCell ⟨w.heap.size, 0, none⟩ (.int .i64 e.1.kind)).setCell ⟨w.heap.size, 1, none⟩ (.int .i64 e.1.num)).setCell ⟨w.heap.size, 2, none⟩ (.string (bs e.1.text))).setCell ⟨w.heap.size, 3, none⟩ (.slice ka kn kc)).setCell ⟨w.heap.size, 4, none⟩ (.int .i64 e.1.pl)) := by
  generalize hW : ((((W.setCell ⟨w.heap.size, 0, none⟩ (.int .i64 e.1.kind)).setCell ⟨w.heap.size, 1, none⟩ (.int .i64 e.1.num)).setCell ⟨w.heap.size, 2, none⟩ (.string (bs e.1.text))).setCell ⟨w.heap.size, 3, none⟩ (.slice ka kn kc)).setCell ⟨w.heap.size, 4, none⟩ (.int .i64 e.1.pl) = W'
  have hnb := h.nb
  have hn2 : w.heap.size ≤ w.heap.size := Nat.le_refl _
  have hoth : ∀ g, g ≠ w.heap.size → W'.heap[g]? = W.heap[g]? := fun g hg => by
    rw [← hW]; exact heap_other (heap_other (heap_other (heap_other (heap_other rfl hg) hg) hg) hg) hg
  have hkp := ((((h.kp.setNew hn2 0 (.int .i64 e.1.kind)).setNew hn2 1 (.int .i64 e.1.num)).setNew hn2 2 (.string (bs e.1.text))).setNew hn2 3 (.slice ka kn kc)).setNew hn2 4 (.int .i64 e.1.pl)
  rw [hW] at hkp
  obtain ⟨kk, q1, q2, q3⟩ := h.p.block
  refine ⟨hkp, ⟨⟨kk, q1, q2, by rw [hoth b (by omega)]; exact q3⟩, ?_, h.p.low, h.p.last, h.p.few⟩, ka, kn, kc, rfl, ?_⟩
  · refine h.p.toks.keep fun x hx => hoth x.block ?_
    have := h.p.low x hx
    omega
  · refine ExAt.base (hx.keep fun g _ hg => hoth g (by omega)) fun g _ hg => ?_
    have h3 : w.heap.size < g := hg
    show w.heap.size ≤ g
    omega
end
theorem pl_le {b : Nat} {ta : Option Addr} {tn tc : Nat} {T : List Tk} {t : Tk} {r : List Tk} {f : Int × Int} {w : World} (h : PAt b ta tn tc T (t :: r) f w) : TkOk t := by
  obtain ⟨k, hk1, _, _⟩ := h.block
  have hmem : t ∈ T := by
    have : t ∈ T.drop k := by rw [hk1]; simp
    exact List.mem_of_mem_drop this
  exact h.toks.fits t hmem
/-- A contract as the walk wants it: a list was read. -/
theorem fo_ok {b : Nat} {ta : Option Addr} {tn tc : Nat} {T : List Tk} {f : Int × Int} {x : Rs (List Ex)} {W : World} {N : Nat} {args : Array Value} {a : List Ex}
    (h : Calls Try.prog N args W (PPost b ta tn tc T f x (fun ks => VFo W.heap.size (ofL ks)) W)) (hx : x.val = some a) :
    Calls Try.prog N args W fun e w' => ∃ ka kn kc, e = .returned (.slice ka kn kc) ∧ (kn ≤ maxLen ∧ FoAt true (fun g => W.heap.size ≤ g) w' (ofL a) ka kn) ∧ Kp b W w' ∧ PAt b ta tn tc T x.rest (flt x.many f) w' := by
  refine (calls_ok h hx).mono ?_
  rintro e w' ⟨v, he, ⟨ka, kn, kc, hv, hE⟩, hK, hP⟩
  exact ⟨ka, kn, kc, by rw [he, hv], hE, hK, hP⟩
theorem isT_kind {k : Int} {s : List UInt8} {t : Tk} (h : isT k s t = true) (hk : k ≠ 1) : t.kind ≠ 1 := by
  unfold isT at h; simp at h
  rw [h.1]; exact hk
set_option maxRecDepth 20000 in
set_option maxHeartbeats 2000000 in
theorem comp_neg {b : Nat} {ta : Option Addr} {tn tc : Nat} {T : List Tk} {n : Nat} {f : Int × Int} (w : World) {t : Tk} {r : List Tk} (h : PAt b ta tn tc T (t :: r) f w) (hl : r.length ≤ n)
    (HF : ∀ l f w, PAt b ta tn tc T l f w → l.length ≤ n → Calls Try.prog 94 #[.pointer (some ⟨b, 0, none⟩)] w (PPost b ta tn tc T f (facN n l) (VEx w.heap.size) w)) (hs : isT 6 [45] t = true) :
    Calls Try.prog 98 #[.pointer (some ⟨b, 0, none⟩)] w (PPost b ta tn tc T f ((facN n r).map fun e => (hdB 4 t, ofL [e])) (VEx w.heap.size) w) := by
  have hres : Try.f98.results = #[.cell 2 35] := by kernel_rfl
  have HC0 : Hid (CL b ta tn tc T w (t :: r) f (w.alloc (.cells zero5 35))) := CL.start h
  have HPl : Hid (t.pl ≤ 4000) := (pl_le h).pl
  have hfd := fld48_3
  have hk1 := isT_kind hs (by decide)
  have HSa : Hid (∀ W, PAt b ta tn tc T (t :: r) f W → Calls Try.prog 86 #[.pointer (some ⟨b, 0, none⟩), .int .i64 6, .string ⟨#[45]⟩] W fun e w' => e = .returned (.bool true) ∧ Below W.heap.size W w') := fun W h => by
    have := sees_calls W h 6 ⟨#[45]⟩
    rw [show (⟨#[45]⟩ : ByteArray).data.toList = [45] from rfl, hs] at this; exact this
  have HN : Hid (∀ w, PAt b ta tn tc T (t :: r) f w → Calls Try.prog 85 #[.pointer (some ⟨b, 0, none⟩)] w fun e w' => e = .returned (.agg #[.int .i64 t.kind, .int .i64 t.num, .string (bs t.text), .int .i64 (t.pl : Int)]) ∧ Kp b w w' ∧ PAt b ta tn tc T r f w') := fun w h => nextP_calls w h hk1
  generalize hX : (facN n r).map (fun e => (hdB 4 t, ofL [e])) = X at *
  have HZ : Hid (∀ v w', Kp b w w' → PAt b ta tn tc T X.rest (70, plOf X.rest) w' → X.val = none → PPost b ta tn tc T f X (VEx w.heap.size) w (.panicked [{ v := .iface 27 v, recovered := false }]) w') := fun v w' h1 h2 h3 => ⟨h1, .inr ⟨h3, ⟨v, rfl⟩, h2⟩⟩
  cases hx : (facN n r).val with
  | none =>
    have HFa : Hid (∀ W, PAt b ta tn tc T r f W → Calls Try.prog 94 #[.pointer (some ⟨b, 0, none⟩)] W fun e w' => ∃ v, e = .panicked [{ v := .iface 27 v, recovered := false }] ∧ Kp b W w' ∧ PAt b ta tn tc T (facN n r).rest (70, plOf (facN n r).rest) w') := fun W hW => calls_no (HF r f W hW hl) hx
    have HE : Hid (X.val = none ∧ X.rest = (facN n r).rest) := by rw [← hX]; exact ⟨by show (facN n r).val.map _ = none; rw [hx]; rfl, rfl⟩
    clear hx hX HF h hs hk1
    generalize facN n r = y at *
    go_enter Try.func98, Try.ntmps98
    go_wp2_with fail
    refine (HSa.out _ HC0.out.p).mono ?_
    rintro e w1 ⟨rfl, hb1⟩
    have HC1 : Hid (CL b ta tn tc T w (t :: r) f w1) := HC0.out.next hb1
    clear hb1 HSa HC0
    go_wp2_with fail
    refine (HN.out _ HC1.out.p).mono ?_
    rintro e w2 ⟨rfl, hk2, hp2⟩
    have HC2 : Hid (CL b ta tn tc T w r f w2) := HC1.out.go hk2 hp2
    clear hk2 hp2 HN HC1
    go_wp2_with fail
    refine (HFa.out _ HC2.out.p).mono ?_
    rintro e w3 ⟨v, rfl, hk3, hp3⟩
    exact ⟨rfl, HZ.out _ _ (HC2.out.kp.trans hk3) (by rw [HE.out.2]; exact hp3) HE.out.1⟩
  | some a =>
    have HFa : Hid (∀ W, PAt b ta tn tc T r f W → Calls Try.prog 94 #[.pointer (some ⟨b, 0, none⟩)] W fun e w' => ∃ ka kn kc, e = .returned (.agg #[.int .i64 a.1.kind, .int .i64 a.1.num, .string (bs a.1.text), .slice ka kn kc, .int .i64 a.1.pl]) ∧ ExAt true (fun g => W.heap.size ≤ g) w' a ka kn ∧ Kp b W w' ∧ PAt b ta tn tc T (facN n r).rest (flt (facN n r).many f) w') := fun W hW => ex_ok (HF r f W hW hl) hx
    have HE : Hid (X.val = some (hdB 4 t, ofL [a]) ∧ X.rest = (facN n r).rest ∧ X.many = (facN n r).many) := by rw [← hX]; exact ⟨by show (facN n r).val.map _ = some _; rw [hx]; rfl, rfl, rfl⟩
    clear hx hX HF h hs hk1
    generalize facN n r = y at *
    go_enter Try.func98, Try.ntmps98
    go_wp2_with fail
    refine (HSa.out _ HC0.out.p).mono ?_
    rintro e w1 ⟨rfl, hb1⟩
    have HC1 : Hid (CL b ta tn tc T w (t :: r) f w1) := HC0.out.next hb1
    clear hb1 HSa HC0
    go_wp2_with fail
    refine (HN.out _ HC1.out.p).mono ?_
    rintro e w2 ⟨rfl, hk2, hp2⟩
    have HC2 : Hid (CL b ta tn tc T w r f w2) := HC1.out.go hk2 hp2
    clear hk2 hp2 HN HC1
    go_wp2_with fail
    refine (HFa.out _ HC2.out.p).mono ?_
    rintro e w3 ⟨ka, kn, kc, rfl, hE3, hk3, hp3⟩
    have HC3 : Hid (∀ o, CL b ta tn tc T w y.rest (flt y.many f) (w3.alloc o)) := fun o => (HC2.out.go hk3 hp3).next ((Below.refl _ _).alloc (Nat.le_refl _) o)
    have HF3 : Hid (ExAt true (fun g => w.heap.size < g) (w3.alloc (.cells #[.int .i64 a.1.kind, .int .i64 a.1.num, .string (bs a.1.text), .slice ka kn kc, .int .i64 a.1.pl] 35)) (hdB 4 t, ofL [a]) (some ⟨w3.heap.size, 0, none⟩) 1) := by
      have h2 := HC2.out.size
      have h3 := hk3.size
      exact ⟨small_ok (by omega) HPl.out, by decide, one_new (by show w.heap.size < w3.heap.size; omega) (hE3.base fun g _ hg => by
        have h4 : w2.heap.size ≤ g := hg
        show w.heap.size < g
        omega)⟩
    have z0 := fun o => (HC3.out o).zeros.1
    have z1 := fun o => (HC3.out o).zeros.2.1
    have z2 := fun o => (HC3.out o).zeros.2.2.1
    have z3 := fun o => (HC3.out o).zeros.2.2.2.1
    have z4 := fun o => (HC3.out o).zeros.2.2.2.2.1
    have zf := fun o i => (HC3.out o).zeros.2.2.2.2.2 i
    have HD := (HC3.out _).done (kc := 1) HF3.out
    have HD' : Hid _ := HD
    clear HD hE3 hk3 hp3 HFa HC2
    go_wp2
    refine bodyPost_ret (v := .agg #[.int .i64 4, .int .i64 0, .string ⟨#[]⟩, .slice (some ⟨w3.heap.size, 0, none⟩) 1 1, .int .i64 (t.pl : Int)]) ?_ rfl ?_
    · simp only [results, hres]
      go_simp
    · refine ⟨HD'.out.1, .inl ⟨_, _, HE.out.1, rfl, HD'.out.2.2, ?_⟩⟩
      rw [HE.out.2.1, HE.out.2.2]
      exact HD'.out.2.1
end Go.Proofs.Ytnnmhmlebffacaa
