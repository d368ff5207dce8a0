/-
  The document's term. The document's expr.
-/
import Derived.Test.YtnnmhmlebffacaaG04
import Derived.Test.YtnnmhmlebffacaaG23
namespace Go.Proofs.Ytnnmhmlebffacaa
open Go.RowKit Go.Deep

section
variable {B b : Nat} {ta : Option Addr} {tn tc : Nat} {T l : List Tk} {bad : Bool} {m : List Int} {w w' : World} {t : Tk} {r : List Tk}
theorem RIs.any (h : RIs B b ta tn tc T l true m w) (m2 : List Int) : RIs B b ta tn tc T l true m2 w := by
  obtain ⟨m', h1, _⟩ := h
  exact ⟨m', h1, fun e => by cases e⟩
theorem RIs.nextC (h : RIs B b ta tn tc T (t :: r) bad m w) : Calls Try.prog 26 #[.pointer (some ⟨b, 0, none⟩)] w fun e w' => e = .returned (.agg #[.int .i64 t.kind, .int .i64 t.num, .string (bs t.text), .int .i64 (t.pl : Int)]) ∧ Below w.heap.size w w' := by
  obtain ⟨m', h1, _⟩ := h
  exact nextR_calls w h1
theorem RIs.takesC (h : RIs B b ta tn tc T (t :: r) bad m w) (s : ByteArray) (hs : wordB s.data.toList = false) (ht : WdT t) :
    Calls Try.prog 75 #[.pointer (some ⟨b, 0, none⟩), .string s] w fun e w' => e = .returned (.bool (isW bad s t)) ∧ Kr B b w w' ∧ RIs B b ta tn tc T (if isW bad s t then r else t :: r) bad m w' := by
  obtain ⟨m', h1, h2⟩ := h
  exact (takes_calls w h1 s hs ht).mono fun e w' ⟨q1, q2, q3⟩ => ⟨q1, q2, m', q3, h2⟩
theorem RIs.wantsC (h : RIs B b ta tn tc T (t :: r) bad m w) (s : ByteArray) (hs : wordB s.data.toList = false) (ht : WdT t) :
    Calls Try.prog 45 #[.pointer (some ⟨b, 0, none⟩), .string s] w fun e w' => e = .returned (.tuple #[]) ∧ Kr B b w w' ∧ RIs B b ta tn tc T (if isW bad s t then r else t :: r) (!isW bad s t) m w' := by
  obtain ⟨m', h1, h2⟩ := h
  refine (wants_calls w h1 s hs ht).mono fun e w' ⟨q1, q2, q3⟩ => ⟨q1, q2, m', q3, fun e => ?_⟩
  have hz : isW bad s t = true := by simpa using e
  unfold isW at hz
  simp only [Bool.and_eq_true, Bool.not_eq_true'] at hz
  exact h2 hz.1
theorem RIs.pl (h : RIs B b ta tn tc T (t :: r) bad m w) : t.pl ≤ 4000 := by
  obtain ⟨m', h1, _⟩ := h
  exact (h1.toks.fits t (h1.mem t (by simp))).pl
end
/-- Two expressions side by side in a new block, where the list that they make may be known. -/
theorem TR.two {B b : Nat} {ta : Option Addr} {tn tc : Nat} {T : List Tk} {w : World} {g3 : Nat} {l : List Tk} {bad : Bool} {m : List Int} {h : Hd} {ka : Option Addr} {kn kc : Nat} {W : World} (H : TR B b ta tn tc T w g3 l bad m h ka kn kc W) {F : Fo} (hE : ExAt true (fun g => w.heap.size ≤ g ∧ g ≠ w.heap.size ∧ g ≠ g3) W (h, F) ka kn) {e2 : Ex} {k2 : Option Addr} {n2 c2 : Nat}
    (h2 : ExAt true (fun g => w.heap.size ≤ g ∧ g ≠ w.heap.size ∧ g ≠ g3) W e2 k2 n2) {k : Int} {t : Tk} (hk : 0 ≤ k ∧ k ≤ 100) (ht : t.pl ≤ 4000) {W' : World} (hoth : ∀ g, g ≠ g3 → W'.heap[g]? = (W.alloc (.cells #[.int .i64 h.kind, .int .i64 h.num, .string (bs h.text), .slice ka kn kc, .int .i64 h.pl, .int .i64 e2.1.kind, .int .i64 e2.1.num, .string (bs e2.1.text), .slice k2 n2 c2, .int .i64 e2.1.pl] 35 (0, 0))).heap[g]?) :
    ExAt true (fun g => w.heap.size ≤ g ∧ g ≠ w.heap.size ∧ g ≠ g3) W' (hdB k t, ofL [(h, F), e2]) (some ⟨W.heap.size, 0, none⟩) 2 := by
  have hz := lt_block H.val
  have hz2 := lt_block H.res
  have hsz := H.kr.size
  have hN := two_new (o := true) (S := fun g => w.heap.size ≤ g ∧ g ≠ w.heap.size ∧ g ≠ g3) (kc := kc) (c2 := c2) (by show w.heap.size ≤ W.heap.size ∧ W.heap.size ≠ w.heap.size ∧ W.heap.size ≠ g3; omega) hE h2
  exact ⟨small_ok hk ht, by decide, foAt_keep (fun g _ hg => hoth g hg.2.2) hN⟩
/-- The variable takes an expression of two. -/
theorem TR.mul {B b : Nat} {ta : Option Addr} {tn tc : Nat} {T : List Tk} {w : World} {g3 : Nat} {l : List Tk} {bad : Bool} {m : List Int} {h : Hd} {ka : Option Addr} {kn kc : Nat} {W : World} (H : TR B b ta tn tc T w g3 l bad m h ka kn kc W) (k : Int) (t : Tk) (hk : 0 ≤ k ∧ k ≤ 100) (ht : t.pl ≤ 4000) (h2 : Hd) (k2 : Option Addr) (n2 c2 : Nat) {g : Nat} (hg : g = W.heap.size) {W' : World}
    (hW : W' = ((((((W.alloc (.cells #[.int .i64 h.kind, .int .i64 h.num, .string (bs h.text), .slice ka kn kc, .int .i64 h.pl, .int .i64 h2.kind, .int .i64 h2.num, .string (bs h2.text), .slice k2 n2 c2, .int .i64 h2.pl] 35 (0, 0))).setCell ⟨g3, 0, none⟩ (.int .i64 k)).setCell ⟨g3, 1, none⟩ (.int .i64 0)).setCell ⟨g3, 2, none⟩ (.string ⟨#[]⟩)).setCell ⟨g3, 3, none⟩ (.slice (some ⟨g, 0, none⟩) 2 2)).setCell ⟨g3, 4, none⟩ (.int .i64 (t.pl : Int)))) :
    TR B b ta tn tc T w g3 l bad m (hdB k t) (some ⟨g, 0, none⟩) 2 2 W' ∧ ∀ (F : Fo) (e2 : Ex), ExAt true (fun g => w.heap.size ≤ g ∧ g ≠ w.heap.size ∧ g ≠ g3) W (h, F) ka kn → e2.1 = h2 → ExAt true (fun g => w.heap.size ≤ g ∧ g ≠ w.heap.size ∧ g ≠ g3) W e2 k2 n2 → ExAt true (fun g => w.heap.size ≤ g ∧ g ≠ w.heap.size ∧ g ≠ g3) W' (hdB k t, ofL [(h, F), e2]) (some ⟨g, 0, none⟩) 2 := by
  have hA := H.next (W' := W.alloc (.cells #[.int .i64 h.kind, .int .i64 h.num, .string (bs h.text), .slice ka kn kc, .int .i64 h.pl, .int .i64 h2.kind, .int .i64 h2.num, .string (bs h2.text), .slice k2 n2 c2, .int .i64 h2.pl] 35 (0, 0))) ((Below.refl _ _).alloc (Nat.le_refl _) _)
  obtain ⟨q1, q2⟩ := hA.put (hdB k t) (some ⟨g, 0, none⟩) 2 2 (W' := W') hW
  refine ⟨q1, fun F e2 hE he h2' => ?_⟩
  subst he
  subst hg
  exact H.two (c2 := c2) hE h2' hk ht q2
theorem isW_mul {bad : Bool} {t : Tk} : isW bad ⟨#[42]⟩ t = (!bad && isT 6 [42] t) := rfl
set_option maxRecDepth 20000 in
set_option maxHeartbeats 4000000 in
theorem termR_calls {B b : Nat} {ta : Option Addr} {tn tc : Nat} {T : List Tk} (hT : ∀ t ∈ T, WdT t) (hBb : B ≤ b) (n : Nat)
    (HF : ∀ l bad m w, RIs B b ta tn tc T l bad m w → l.length ≤ n → Calls Try.prog 90 #[.pointer (some ⟨b, 0, none⟩)] w (RPost B b ta tn tc T m (lift bad (facN n) l) w)) (l : List Tk) (bad : Bool) (m : List Int) (w : World) (h : RIs B b ta tn tc T l bad m w) (hl : l.length ≤ n) :
    Calls Try.prog 76 #[.pointer (some ⟨b, 0, none⟩)] w (RPost B b ta tn tc T m (lift bad (termG (facN n)) l) w) := by
  have hres : Try.f76.results = #[.cell 2 35] := by kernel_rfl
  have hlt := h.lt
  have HFc : Hid (Calls Try.prog 90 #[.pointer (some ⟨b, 0, none⟩)] (w.alloc (.cells zero5 35)) (RPost B b ta tn tc T m (lift bad (facN n) l) (w.alloc (.cells zero5 35)))) := HF l bad m _ (h.below ((Below.refl _ _).alloc (Nat.le_refl _) _)) hl
  have HFr : Hid (∀ l m w, RIs B b ta tn tc T l false m w → l.length ≤ n → Calls Try.prog 90 #[.pointer (some ⟨b, 0, none⟩)] w (RPost B b ta tn tc T m (facN n l) w)) := fun l m w h1 h2 => HF l false m w h1 h2
  have HX0 : Hid ((lift bad (facN n) l).rest.length ≤ n ∧ (lift bad (facN n) l).rest.length ≤ mx ∧ ((lift bad (facN n) l).val.isNone = true → (lift bad (termG (facN n)) l).val = none ∧ (lift bad (termG (facN n)) l).rest = (lift bad (facN n) l).rest) ∧
      ∀ a, (lift bad (facN n) l).val = some a → EqR (lift bad (termG (facN n)) l) (termGo (facN n) mx a (lift bad (facN n) l).rest) m (m ++ (lift bad (facN n) l).many)) := by
    have hl1 : l.length ≤ mx := h.len
    cases bad with
    | true => exact ⟨hl, hl1, fun _ => ⟨rfl, rfl⟩, fun a e => by cases e⟩
    | false =>
      rw [lift_false, lift_false]
      have hs := suf_len (fac_suf n l)
      refine ⟨by omega, by omega, fun e => ?_, fun a e => ?_⟩
      · have e' : (facN n l).val = none := by simpa using e
        unfold termG
        rw [bind_none _ e']
        exact ⟨rfl, rfl⟩
      · unfold termG
        rw [bind_some _ e]
        exact ⟨rfl, rfl, by simp⟩
  generalize lift bad (termG (facN n)) l = X at *
  generalize lift bad (facN n) l = X1 at *
  clear h hl HF
  go_enter Try.func76, Try.ntmps76
  go_wp2_with fail
  refine HFc.out.mono ?_
  rintro e w1 ⟨h1, ka, kn, kc, rfl, hk1, hp1, hE1⟩
  have hsz : w.heap.size < w1.heap.size := by have := hk1.size; simp at this; omega
  have HR : Hid (TR B b ta tn tc T w w1.heap.size X1.rest X1.val.isNone (m ++ X1.many) h1 ka kn kc (w1.alloc (.cells (exArr h1 ka kn kc) 35)) ∧ ∀ a, X1.val = some a → a.1 = h1 ∧ ExAt true (fun g => w.heap.size ≤ g ∧ g ≠ w.heap.size ∧ g ≠ w1.heap.size) (w1.alloc (.cells (exArr h1 ka kn kc) 35)) a ka kn) := by
    have hb := (Below.refl w1.heap.size w1).alloc (Nat.le_refl _) (.cells (exArr h1 ka kn kc) 35)
    have hk0 : Kr B b w w1 := (Kr.of_below ((Below.refl _ _).alloc (Nat.le_refl _) _)).trans hk1
    refine ⟨⟨hp1.below hb, hk0.then_below hb, hlt, hBb, hsz, heap_old (hk1.keep (heap_alloc_new w _) (by omega) (by decide)), heap_alloc_new w1 _⟩, fun a e => ?_⟩
    obtain ⟨q1, q2⟩ := hE1 a e
    refine ⟨q1, (q2.base fun g hg hs => ?_).below hb⟩
    have h3 : w.heap.size + 1 ≤ g := by simpa using hs
    exact ⟨by omega, by omega, by omega⟩
  clear hk1 hp1 hE1 HFc
  go_wp2_with fail
  go_loopg [] X1.rest.length (fun k wr => ∃ (l' : List Tk) (bad' : Bool) (m' : List Int) (h' : Hd) (ka' : Option Addr) (kn' kc' : Nat), l'.length = k ∧ Hid (TR B b ta tn tc T w w1.heap.size l' bad' m' h' ka' kn' kc' wr) ∧ Hid (l'.length ≤ n ∧ (bad' = true → X.val = none ∧ X.rest = l') ∧ (bad' = false → ∃ F m2, l'.length ≤ m2 ∧ ExAt true (fun g => w.heap.size ≤ g ∧ g ≠ w.heap.size ∧ g ≠ w1.heap.size) wr (h', F) ka' kn' ∧ EqR X (termGo (facN n) m2 (h', F) l') m m')))
  case atStart =>
    refine ⟨X1.rest, X1.val.isNone, m ++ X1.many, h1, ka, kn, kc, rfl, HR.out.1, HX0.out.1, HX0.out.2.2.1, fun e => ?_⟩
    cases hv : X1.val with
    | none => rw [hv] at e; cases e
    | some a =>
      obtain ⟨q1, q2⟩ := HR.out.2 a hv
      subst q1
      exact ⟨a.2, mx, HX0.out.2.1, q2, HX0.out.2.2.2 a hv⟩
  case round =>
    clear HR HX0
    obtain ⟨l', bad', m', h', ka', kn', kc', rfl, HTR, HL⟩ := hrel
    obtain ⟨t, r, rfl⟩ := HTR.out.p.here1
    have hpl := HTR.out.p.pl
    have htw := hT t (HTR.out.p.mem t (by simp))
    have HNx : Hid (Calls Try.prog 26 #[.pointer (some ⟨b, 0, none⟩)] wr fun e w' => e = .returned (.agg #[.int .i64 t.kind, .int .i64 t.num, .string (bs t.text), .int .i64 (t.pl : Int)]) ∧ Below wr.heap.size wr w') := HTR.out.p.nextC
    have HTk : Hid (∀ W, RIs B b ta tn tc T (t :: r) bad' m' W → Calls Try.prog 75 #[.pointer (some ⟨b, 0, none⟩), .string ⟨#[42]⟩] W fun e w' => e = .returned (.bool (isW bad' ⟨#[42]⟩ t)) ∧ Kr B b W w' ∧ RIs B b ta tn tc T (if isW bad' ⟨#[42]⟩ t then r else t :: r) bad' m' w') := fun W hW => hW.takesC _ (by decide) htw
    clear htw
    cases hz : isW bad' ⟨#[42]⟩ t with
    | false =>
      rw [hz] at HTk
      have HX : Hid (X.rest = t :: r ∧ (bad' = true → X.val = none) ∧ (bad' = false → m ++ X.many = m' ∧ ∃ F, X.val = some (h', F) ∧ ExAt true (fun g => w.heap.size ≤ g ∧ g ≠ w.heap.size ∧ g ≠ w1.heap.size) wr (h', F) ka' kn')) := by
        obtain ⟨_, q2, q3⟩ := HL.out
        cases bad' with
        | true => exact ⟨(q2 rfl).2, fun _ => (q2 rfl).1, fun e => by cases e⟩
        | false =>
          obtain ⟨F, m2, g1, g2, g3, g4, g5⟩ := q3 rfl
          have hi : isT 6 [42] t = false := by simpa [isW] using hz
          cases m2 with
          | zero => simp at g1
          | succ m2 =>
            rw [termGo, hi] at g3 g4 g5
            exact ⟨g4, (fun e => by cases e), fun _ => ⟨by simpa [pure'] using g5, F, g3, g2⟩⟩
      clear HL hz HFr
      go_wp2_with fail
      refine HNx.out.mono ?_
      rintro e w2 ⟨rfl, hb2⟩
      have H2 : Hid (∀ o, TR B b ta tn tc T w w1.heap.size (t :: r) bad' m' h' ka' kn' kc' (w2.alloc o) ∧ Below wr.heap.size wr (w2.alloc o)) := fun o => by
        have hb : Below wr.heap.size wr (w2.alloc o) := hb2.trans (((Below.refl _ _).alloc (Nat.le_refl _) o).mono hb2.size)
        exact ⟨HTR.out.next hb, hb⟩
      clear hb2 HNx
      go_wp2_with fail
      refine (HTk.out _ (H2.out _).1.p).mono ?_
      rintro e w3 ⟨rfl, hk3, hp3⟩
      simp only [Bool.false_eq_true, if_false] at hp3
      have H3 : Hid (TR B b ta tn tc T w w1.heap.size (t :: r) bad' m' h' ka' kn' kc' w3) := (H2.out _).1.go hk3 hp3
      have HE3 : Hid (∀ F, ExAt true (fun g => w.heap.size ≤ g ∧ g ≠ w.heap.size ∧ g ≠ w1.heap.size) wr (h', F) ka' kn' → ExAt true (fun g => w.heap.size ≤ g ∧ g ≠ w.heap.size ∧ g ≠ w1.heap.size) w3 (h', F) ka' kn') := fun F hE => by
        obtain ⟨cs, hb⟩ := (H2.out (.cells #[.int .i64 t.kind, .int .i64 t.num, .string (bs t.text), .int .i64 (t.pl : Int)] 48)).1.p.own
        exact (hE.below (H2.out _).2).kr hk3 hb
      clear hk3 hp3 HTk H2
      obtain ⟨s0, s1, s2, s3, s4⟩ := H3.out.sc
      obtain ⟨z0, z1, z2, z3, z4, zf⟩ := H3.out.zeros
      have HD : Hid _ := H3.out.done rfl
      go_wp2
      refine bodyPost_ret (v := .agg #[.int .i64 h'.kind, .int .i64 h'.num, .string (bs h'.text), .slice ka' kn' kc', .int .i64 h'.pl]) ?_ rfl ?_
      · simp only [results, hres]
        go_simp
      · obtain ⟨d1, d2, d3⟩ := HD.out
        refine ⟨h', ka', kn', kc', rfl, d1, ?_, fun a ha => ?_⟩
        · rw [HX.out.1]
          cases bad' with
          | true => rw [HX.out.2.1 rfl]; exact d2.any _
          | false =>
            obtain ⟨x1, F, x2, _⟩ := HX.out.2.2 rfl
            rw [x2, x1]; exact d2
        · cases bad' with
          | true => rw [HX.out.2.1 rfl] at ha; cases ha
          | false =>
            obtain ⟨_, F, x2, x3⟩ := HX.out.2.2 rfl
            rw [x2] at ha
            cases ha
            exact ⟨rfl, ((HE3.out F x3).keep fun g _ hg => d3 g hg.2.1).base fun g _ hg => hg.1⟩
    | true =>
      have hb0 : bad' = false ∧ isT 6 [42] t = true := by
        rw [isW_mul] at hz
        simpa using hz
      obtain ⟨hbf, hit⟩ := hb0
      subst hbf
      rw [hz] at HTk
      obtain ⟨F, m2, HX⟩ : ∃ F m2, Hid (r.length ≤ m2 ∧ r.length ≤ n ∧ ExAt true (fun g => w.heap.size ≤ g ∧ g ≠ w.heap.size ∧ g ≠ w1.heap.size) wr (h', F) ka' kn' ∧ EqR X ((facN n r).bind fun e2 l2 => termGo (facN n) m2 (hdB 7 t, ofL [(h', F), e2]) l2) m m') := by
        obtain ⟨q1, _, q3⟩ := HL.out
        obtain ⟨F, m2, g1, g2, g3⟩ := q3 rfl
        cases m2 with
        | zero => simp at g1
        | succ m2 =>
          rw [termGo, hit] at g3
          exact ⟨F, m2, by simp at g1; exact g1, by simp at q1; omega, g2, g3⟩
      clear HL hz hit
      go_wp2_with fail
      refine HNx.out.mono ?_
      rintro e w2 ⟨rfl, hb2⟩
      have H2 : Hid (∀ o, TR B b ta tn tc T w w1.heap.size (t :: r) false m' h' ka' kn' kc' (w2.alloc o) ∧ Below wr.heap.size wr (w2.alloc o)) := fun o => by
        have hb : Below wr.heap.size wr (w2.alloc o) := hb2.trans (((Below.refl _ _).alloc (Nat.le_refl _) o).mono hb2.size)
        exact ⟨HTR.out.next hb, hb⟩
      have HV2 : Hid ((w2.alloc (.cells #[.int .i64 t.kind, .int .i64 t.num, .string (bs t.text), .int .i64 (t.pl : Int)] 48)).heap[w2.heap.size]? = some (.cells #[.int .i64 t.kind, .int .i64 t.num, .string (bs t.text), .int .i64 (t.pl : Int)] 48 (0, 0)) ∧ w2.heap.size ≠ b) := ⟨heap_alloc_new w2 _, by have := HTR.out.p.lt; have := hb2.size; omega⟩
      clear hb2 HNx
      go_wp2_with fail
      refine (HTk.out _ (H2.out _).1.p).mono ?_
      rintro e w3 ⟨rfl, hk3, hp3⟩
      simp only [if_true] at hp3
      have H3 : Hid (TR B b ta tn tc T w w1.heap.size r false m' h' ka' kn' kc' w3 ∧ w3.heap[w2.heap.size]? = some (.cells #[.int .i64 t.kind, .int .i64 t.num, .string (bs t.text), .int .i64 (t.pl : Int)] 48 (0, 0)) ∧ ExAt true (fun g => w.heap.size ≤ g ∧ g ≠ w.heap.size ∧ g ≠ w1.heap.size) w3 (h', F) ka' kn') := by
        obtain ⟨cs, hb⟩ := (H2.out (.cells #[.int .i64 t.kind, .int .i64 t.num, .string (bs t.text), .int .i64 (t.pl : Int)] 48)).1.p.own
        exact ⟨(H2.out _).1.go hk3 hp3, hk3.keep HV2.out.1 HV2.out.2 (by decide), (HX.out.2.2.1.below (H2.out _).2).kr hk3 hb⟩
      clear hk3 hp3 HTk H2 HTR
      go_wp2_with fail
      refine (HFr.out r m' w3 H3.out.1.p HX.out.2.1).mono ?_
      rintro e w4 ⟨h2, k2, n2, c2, rfl, hk4, hp4, hE4⟩
      have H4 : Hid (∀ o, TR B b ta tn tc T w w1.heap.size (facN n r).rest (facN n r).val.isNone (m' ++ (facN n r).many) h' ka' kn' kc' (w4.alloc o) ∧ (w4.alloc o).heap[w2.heap.size]? = some (.cells #[.int .i64 t.kind, .int .i64 t.num, .string (bs t.text), .int .i64 (t.pl : Int)] 48 (0, 0)) ∧ ExAt true (fun g => w.heap.size ≤ g ∧ g ≠ w.heap.size ∧ g ≠ w1.heap.size) (w4.alloc o) (h', F) ka' kn' ∧
          ∀ a, (facN n r).val = some a → a.1 = h2 ∧ ExAt true (fun g => w.heap.size ≤ g ∧ g ≠ w.heap.size ∧ g ≠ w1.heap.size) (w4.alloc o) a k2 n2) := fun o => by
        obtain ⟨cs, hb⟩ := H3.out.1.p.own
        have hb9 : Below w4.heap.size w4 (w4.alloc o) := (Below.refl _ _).alloc (Nat.le_refl _) o
        refine ⟨(H3.out.1.go hk4 hp4).next hb9, heap_old (hk4.keep H3.out.2.1 HV2.out.2 (by decide)), (H3.out.2.2.kr hk4 hb).below hb9, fun a ha => ?_⟩
        obtain ⟨q1, q2⟩ := hE4 a ha
        refine ⟨q1, (q2.base fun g _ hs => ?_).below hb9⟩
        have h3 : w3.heap.size ≤ g := hs
        have h5 := lt_block H3.out.1.val
        have h6 := lt_block H3.out.1.res
        have h7 := H3.out.1.kr.size
        exact ⟨by omega, by omega, by omega⟩
      have H4b : Hid (∀ o o', TR B b ta tn tc T w w1.heap.size (facN n r).rest (facN n r).val.isNone (m' ++ (facN n r).many) h' ka' kn' kc' ((w4.alloc o).alloc o') ∧ ((w4.alloc o).alloc o').heap[w2.heap.size]? = some (.cells #[.int .i64 t.kind, .int .i64 t.num, .string (bs t.text), .int .i64 (t.pl : Int)] 48 (0, 0))) := fun o o' =>
        ⟨(H4.out o).1.next ((Below.refl _ _).alloc (Nat.le_refl _) o'), heap_old (H4.out o).2.1⟩
      have hw4 : w4.heap.size ≠ w1.heap.size ∧ w4.heap.size ≠ w2.heap.size := by
        have h5 := lt_block H3.out.1.val
        have h6 := lt_block H3.out.2.1
        have h7 := hk4.size
        exact ⟨by omega, by omega⟩
      clear hk4 hp4 hE4 H3 HV2
      have e0 := fun o => (H4.out o).1.sc.1
      have e1 := fun o => (H4.out o).1.sc.2.1
      have e2 := fun o => (H4.out o).1.sc.2.2.1
      have e3 := fun o => (H4.out o).1.sc.2.2.2.1
      have e4 := fun o => (H4.out o).1.sc.2.2.2.2
      have i0 := fun o o' => (H4b.out o o').1.sc.1
      have i1 := fun o o' => (H4b.out o o').1.sc.2.1
      have i2 := fun o o' => (H4b.out o o').1.sc.2.2.1
      have i3 := fun o o' => (H4b.out o o').1.sc.2.2.2.1
      have i4 := fun o o' => (H4b.out o o').1.sc.2.2.2.2
      have fz := fun o o' i => (H4b.out o o').1.frz i
      have t3 := fun o o' => blk (i := 3) (H4b.out o o').2 rfl
      go_wp2_with fail
      go_roundg (facN n r).rest.length
      case measure => have := suf_len (fac_suf n r); simp; omega
      case rel =>
        have hP := (H4.out (.cells #[.int .i64 h2.kind, .int .i64 h2.num, .string (bs h2.text), .slice k2 n2 c2, .int .i64 h2.pl] 35)).1.mul 7 t (by omega) hpl h2 k2 n2 c2 (g := w4.heap.size + 1) (by simp) rfl
        refine ⟨(facN n r).rest, (facN n r).val.isNone, m' ++ (facN n r).many, hdB 7 t, some ⟨w4.heap.size + 1, 0, none⟩, 2, 2, rfl, hP.1, ?_, fun e => ?_, fun e => ?_⟩
        · have := suf_len (fac_suf n r)
          have := HX.out.2.1
          omega
        · have e' : (facN n r).val = none := by simpa using e
          have hq := HX.out.2.2.2
          rw [bind_none _ e'] at hq
          exact ⟨hq.1, hq.2.1⟩
        · cases hv : (facN n r).val with
          | none => rw [hv] at e; cases e
          | some e2 =>
            have hq := HX.out.2.2.2
            rw [bind_some _ hv] at hq
            refine ⟨ofL [(h', F), e2], m2, ?_, hP.2 F e2 (H4.out _).2.2.1 ((H4.out (.cells #[.int .i64 h2.kind, .int .i64 h2.num, .string (bs h2.text), .slice k2 n2 c2, .int .i64 h2.pl] 35)).2.2.2 e2 hv).1 ((H4.out _).2.2.2 e2 hv).2, hq.1, hq.2.1, ?_⟩
            · have := suf_len (fac_suf n r)
              have := HX.out.1
              omega
            · rw [hq.2.2]; simp
end Go.Proofs.Ytnnmhmlebffacaa
namespace Go.Proofs.Ytnnmhmlebffacaa
open Go.RowKit Go.Deep

set_option maxRecDepth 20000 in
set_option maxHeartbeats 4000000 in
theorem exprR_calls {B b : Nat} {ta : Option Addr} {tn tc : Nat} {T : List Tk} (hT : ∀ t ∈ T, WdT t) (hBb : B ≤ b) (n : Nat)
    (HF : ∀ l bad m w, RIs B b ta tn tc T l bad m w → l.length ≤ n → Calls Try.prog 76 #[.pointer (some ⟨b, 0, none⟩)] w (RPost B b ta tn tc T m (lift bad (termG (facN n)) l) w)) (l : List Tk) (bad : Bool) (m : List Int) (w : World) (h : RIs B b ta tn tc T l bad m w) (hl : l.length ≤ n) :
    Calls Try.prog 46 #[.pointer (some ⟨b, 0, none⟩)] w (RPost B b ta tn tc T m (lift bad (exprG (facN n)) l) w) := by
  have hres : Try.f46.results = #[.cell 2 35] := by kernel_rfl
  have hlt := h.lt
  have HFc : Hid (Calls Try.prog 76 #[.pointer (some ⟨b, 0, none⟩)] (w.alloc (.cells zero5 35)) (RPost B b ta tn tc T m (lift bad (termG (facN n)) l) (w.alloc (.cells zero5 35)))) := HF l bad m _ (h.below ((Below.refl _ _).alloc (Nat.le_refl _) _)) hl
  have HFr : Hid (∀ l m w, RIs B b ta tn tc T l false m w → l.length ≤ n → Calls Try.prog 76 #[.pointer (some ⟨b, 0, none⟩)] w (RPost B b ta tn tc T m (termG (facN n) l) w)) := fun l m w h1 h2 => HF l false m w h1 h2
  have HX0 : Hid ((lift bad (termG (facN n)) l).rest.length ≤ n ∧ (lift bad (termG (facN n)) l).rest.length ≤ mx ∧ ((lift bad (termG (facN n)) l).val.isNone = true → (lift bad (exprG (facN n)) l).val = none ∧ (lift bad (exprG (facN n)) l).rest = (lift bad (termG (facN n)) l).rest) ∧
      ∀ a, (lift bad (termG (facN n)) l).val = some a → EqR (lift bad (exprG (facN n)) l) (exprGo (termG (facN n)) mx a (lift bad (termG (facN n)) l).rest) m (m ++ (lift bad (termG (facN n)) l).many)) := by
    have hl1 : l.length ≤ mx := h.len
    cases bad with
    | true => exact ⟨hl, hl1, fun _ => ⟨rfl, rfl⟩, fun a e => by cases e⟩
    | false =>
      rw [lift_false, lift_false]
      have hs := suf_len (term_suf (fac_suf n) l)
      refine ⟨by omega, by omega, fun e => ?_, fun a e => ?_⟩
      · have e' : (termG (facN n) l).val = none := by simpa using e
        unfold exprG
        rw [bind_none _ e']
        exact ⟨rfl, rfl⟩
      · unfold exprG
        rw [bind_some _ e]
        exact ⟨rfl, rfl, by simp⟩
  generalize lift bad (exprG (facN n)) l = X at *
  generalize lift bad (termG (facN n)) l = X1 at *
  clear h hl HF
  go_enter Try.func46, Try.ntmps46
  go_wp2_with fail
  refine HFc.out.mono ?_
  rintro e w1 ⟨h1, ka, kn, kc, rfl, hk1, hp1, hE1⟩
  have hsz : w.heap.size < w1.heap.size := by have := hk1.size; simp at this; omega
  have HR : Hid (TR B b ta tn tc T w w1.heap.size X1.rest X1.val.isNone (m ++ X1.many) h1 ka kn kc (w1.alloc (.cells (exArr h1 ka kn kc) 35)) ∧ ∀ a, X1.val = some a → a.1 = h1 ∧ ExAt true (fun g => w.heap.size ≤ g ∧ g ≠ w.heap.size ∧ g ≠ w1.heap.size) (w1.alloc (.cells (exArr h1 ka kn kc) 35)) a ka kn) := by
    have hb := (Below.refl w1.heap.size w1).alloc (Nat.le_refl _) (.cells (exArr h1 ka kn kc) 35)
    have hk0 : Kr B b w w1 := (Kr.of_below ((Below.refl _ _).alloc (Nat.le_refl _) _)).trans hk1
    refine ⟨⟨hp1.below hb, hk0.then_below hb, hlt, hBb, hsz, heap_old (hk1.keep (heap_alloc_new w _) (by omega) (by decide)), heap_alloc_new w1 _⟩, fun a e => ?_⟩
    obtain ⟨q1, q2⟩ := hE1 a e
    refine ⟨q1, (q2.base fun g hg hs => ?_).below hb⟩
    have h3 : w.heap.size + 1 ≤ g := by simpa using hs
    exact ⟨by omega, by omega, by omega⟩
  clear hk1 hp1 hE1 HFc
  go_wp2_with fail
  go_loopg [] X1.rest.length (fun k wr => ∃ (l' : List Tk) (bad' : Bool) (m' : List Int) (h' : Hd) (ka' : Option Addr) (kn' kc' : Nat), l'.length = k ∧ Hid (TR B b ta tn tc T w w1.heap.size l' bad' m' h' ka' kn' kc' wr) ∧ Hid (l'.length ≤ n ∧ (bad' = true → X.val = none ∧ X.rest = l') ∧ (bad' = false → ∃ F m2, l'.length ≤ m2 ∧ ExAt true (fun g => w.heap.size ≤ g ∧ g ≠ w.heap.size ∧ g ≠ w1.heap.size) wr (h', F) ka' kn' ∧ EqR X (exprGo (termG (facN n)) m2 (h', F) l') m m')))
  case atStart =>
    refine ⟨X1.rest, X1.val.isNone, m ++ X1.many, h1, ka, kn, kc, rfl, HR.out.1, HX0.out.1, HX0.out.2.2.1, fun e => ?_⟩
    cases hv : X1.val with
    | none => rw [hv] at e; cases e
    | some a =>
      obtain ⟨q1, q2⟩ := HR.out.2 a hv
      subst q1
      exact ⟨a.2, mx, HX0.out.2.1, q2, HX0.out.2.2.2 a hv⟩
  case round =>
    clear HR HX0
    obtain ⟨l', bad', m', h', ka', kn', kc', rfl, HTR, HL⟩ := hrel
    obtain ⟨t, r, rfl⟩ := HTR.out.p.here1
    have hpl := HTR.out.p.pl
    have htw := hT t (HTR.out.p.mem t (by simp))
    have HNx : Hid (Calls Try.prog 26 #[.pointer (some ⟨b, 0, none⟩)] wr fun e w' => e = .returned (.agg #[.int .i64 t.kind, .int .i64 t.num, .string (bs t.text), .int .i64 (t.pl : Int)]) ∧ Below wr.heap.size wr w') := HTR.out.p.nextC
    have HTk : Hid (∀ W, RIs B b ta tn tc T (t :: r) bad' m' W → Calls Try.prog 75 #[.pointer (some ⟨b, 0, none⟩), .string ⟨#[43]⟩] W fun e w' => e = .returned (.bool (isW bad' ⟨#[43]⟩ t)) ∧ Kr B b W w' ∧ RIs B b ta tn tc T (if isW bad' ⟨#[43]⟩ t then r else t :: r) bad' m' w') := fun W hW => hW.takesC _ (by decide) htw
    have HTm : Hid (∀ W, RIs B b ta tn tc T (t :: r) bad' m' W → Calls Try.prog 75 #[.pointer (some ⟨b, 0, none⟩), .string ⟨#[45]⟩] W fun e w' => e = .returned (.bool (isW bad' ⟨#[45]⟩ t)) ∧ Kr B b W w' ∧ RIs B b ta tn tc T (if isW bad' ⟨#[45]⟩ t then r else t :: r) bad' m' w') := fun W hW => hW.takesC _ (by decide) htw
    clear htw
    cases hz : isW bad' ⟨#[43]⟩ t with
    | true =>
      clear HTm
      have hb0 : bad' = false ∧ isT 6 [43] t = true := by
        have hz2 : (!bad' && isT 6 [43] t) = true := hz
        simpa using hz2
      obtain ⟨hbf, hit⟩ := hb0
      subst hbf
      rw [hz] at HTk
      obtain ⟨F, m2, HX⟩ : ∃ F m2, Hid (r.length ≤ m2 ∧ r.length ≤ n ∧ ExAt true (fun g => w.heap.size ≤ g ∧ g ≠ w.heap.size ∧ g ≠ w1.heap.size) wr (h', F) ka' kn' ∧ EqR X ((termG (facN n) r).bind fun e2 l2 => exprGo (termG (facN n)) m2 (hdB 5 t, ofL [(h', F), e2]) l2) m m') := by
        obtain ⟨q1, _, q3⟩ := HL.out
        obtain ⟨F, m2, g1, g2, g3⟩ := q3 rfl
        cases m2 with
        | zero => simp at g1
        | succ m2 =>
          have h45 : isT 6 [45] t = false := by
            unfold isT at hit ⊢
            simp only [Bool.and_eq_true, decide_eq_true_eq] at hit
            rw [hit.2]; simp
          rw [exprGo, hit, h45] at g3
          exact ⟨F, m2, by simp at g1; exact g1, by simp at q1; omega, g2, g3⟩
      clear HL hz hit
      go_wp2_with fail
      refine HNx.out.mono ?_
      rintro e w2 ⟨rfl, hb2⟩
      have H2 : Hid (∀ o, TR B b ta tn tc T w w1.heap.size (t :: r) false m' h' ka' kn' kc' (w2.alloc o) ∧ Below wr.heap.size wr (w2.alloc o)) := fun o => by
        have hb : Below wr.heap.size wr (w2.alloc o) := hb2.trans (((Below.refl _ _).alloc (Nat.le_refl _) o).mono hb2.size)
        exact ⟨HTR.out.next hb, hb⟩
      have HV2 : Hid ((w2.alloc (.cells #[.int .i64 t.kind, .int .i64 t.num, .string (bs t.text), .int .i64 (t.pl : Int)] 48)).heap[w2.heap.size]? = some (.cells #[.int .i64 t.kind, .int .i64 t.num, .string (bs t.text), .int .i64 (t.pl : Int)] 48 (0, 0)) ∧ w2.heap.size ≠ b) := ⟨heap_alloc_new w2 _, by have := HTR.out.p.lt; have := hb2.size; omega⟩
      clear hb2 HNx
      go_wp2_with fail
      refine (HTk.out _ (H2.out _).1.p).mono ?_
      rintro e w3 ⟨rfl, hk3, hp3⟩
      simp only [if_true] at hp3
      have H3 : Hid (TR B b ta tn tc T w w1.heap.size r false m' h' ka' kn' kc' w3 ∧ w3.heap[w2.heap.size]? = some (.cells #[.int .i64 t.kind, .int .i64 t.num, .string (bs t.text), .int .i64 (t.pl : Int)] 48 (0, 0)) ∧ ExAt true (fun g => w.heap.size ≤ g ∧ g ≠ w.heap.size ∧ g ≠ w1.heap.size) w3 (h', F) ka' kn') := by
        obtain ⟨cs, hb⟩ := (H2.out (.cells #[.int .i64 t.kind, .int .i64 t.num, .string (bs t.text), .int .i64 (t.pl : Int)] 48)).1.p.own
        exact ⟨(H2.out _).1.go hk3 hp3, hk3.keep HV2.out.1 HV2.out.2 (by decide), (HX.out.2.2.1.below (H2.out _).2).kr hk3 hb⟩
      clear hk3 hp3 HTk H2 HTR
      go_wp2_with fail
      refine (HFr.out r m' w3 H3.out.1.p HX.out.2.1).mono ?_
      rintro e w4 ⟨h2, k2, n2, c2, rfl, hk4, hp4, hE4⟩
      have H4 : Hid (∀ o, TR B b ta tn tc T w w1.heap.size (termG (facN n) r).rest (termG (facN n) r).val.isNone (m' ++ (termG (facN n) r).many) h' ka' kn' kc' (w4.alloc o) ∧ (w4.alloc o).heap[w2.heap.size]? = some (.cells #[.int .i64 t.kind, .int .i64 t.num, .string (bs t.text), .int .i64 (t.pl : Int)] 48 (0, 0)) ∧ ExAt true (fun g => w.heap.size ≤ g ∧ g ≠ w.heap.size ∧ g ≠ w1.heap.size) (w4.alloc o) (h', F) ka' kn' ∧
          ∀ a, (termG (facN n) r).val = some a → a.1 = h2 ∧ ExAt true (fun g => w.heap.size ≤ g ∧ g ≠ w.heap.size ∧ g ≠ w1.heap.size) (w4.alloc o) a k2 n2) := fun o => by
        obtain ⟨cs, hb⟩ := H3.out.1.p.own
        have hb9 : Below w4.heap.size w4 (w4.alloc o) := (Below.refl _ _).alloc (Nat.le_refl _) o
        refine ⟨(H3.out.1.go hk4 hp4).next hb9, heap_old (hk4.keep H3.out.2.1 HV2.out.2 (by decide)), (H3.out.2.2.kr hk4 hb).below hb9, fun a ha => ?_⟩
        obtain ⟨q1, q2⟩ := hE4 a ha
        refine ⟨q1, (q2.base fun g _ hs => ?_).below hb9⟩
        have h3 : w3.heap.size ≤ g := hs
        have h5 := lt_block H3.out.1.val
        have h6 := lt_block H3.out.1.res
        have h7 := H3.out.1.kr.size
        exact ⟨by omega, by omega, by omega⟩
      have H4b : Hid (∀ o o', TR B b ta tn tc T w w1.heap.size (termG (facN n) r).rest (termG (facN n) r).val.isNone (m' ++ (termG (facN n) r).many) h' ka' kn' kc' ((w4.alloc o).alloc o') ∧ ((w4.alloc o).alloc o').heap[w2.heap.size]? = some (.cells #[.int .i64 t.kind, .int .i64 t.num, .string (bs t.text), .int .i64 (t.pl : Int)] 48 (0, 0))) := fun o o' =>
        ⟨(H4.out o).1.next ((Below.refl _ _).alloc (Nat.le_refl _) o'), heap_old (H4.out o).2.1⟩
      have hw4 : w4.heap.size ≠ w1.heap.size ∧ w4.heap.size ≠ w2.heap.size := by
        have h5 := lt_block H3.out.1.val
        have h6 := lt_block H3.out.2.1
        have h7 := hk4.size
        exact ⟨by omega, by omega⟩
      clear hk4 hp4 hE4 H3 HV2
      have e0 := fun o => (H4.out o).1.sc.1
      have e1 := fun o => (H4.out o).1.sc.2.1
      have e2 := fun o => (H4.out o).1.sc.2.2.1
      have e3 := fun o => (H4.out o).1.sc.2.2.2.1
      have e4 := fun o => (H4.out o).1.sc.2.2.2.2
      have i0 := fun o o' => (H4b.out o o').1.sc.1
      have i1 := fun o o' => (H4b.out o o').1.sc.2.1
      have i2 := fun o o' => (H4b.out o o').1.sc.2.2.1
      have i3 := fun o o' => (H4b.out o o').1.sc.2.2.2.1
      have i4 := fun o o' => (H4b.out o o').1.sc.2.2.2.2
      have fz := fun o o' i => (H4b.out o o').1.frz i
      have t3 := fun o o' => blk (i := 3) (H4b.out o o').2 rfl
      go_wp2_with fail
      go_roundg (termG (facN n) r).rest.length
      case measure => have := suf_len (term_suf (fac_suf n) r); simp; omega
      case rel =>
        have hP := (H4.out (.cells #[.int .i64 h2.kind, .int .i64 h2.num, .string (bs h2.text), .slice k2 n2 c2, .int .i64 h2.pl] 35)).1.mul 5 t (by omega) hpl h2 k2 n2 c2 (g := w4.heap.size + 1) (by simp) rfl
        refine ⟨(termG (facN n) r).rest, (termG (facN n) r).val.isNone, m' ++ (termG (facN n) r).many, hdB 5 t, some ⟨w4.heap.size + 1, 0, none⟩, 2, 2, rfl, hP.1, ?_, fun e => ?_, fun e => ?_⟩
        · have := suf_len (term_suf (fac_suf n) r)
          have := HX.out.2.1
          omega
        · have e' : (termG (facN n) r).val = none := by simpa using e
          have hq := HX.out.2.2.2
          rw [bind_none _ e'] at hq
          exact ⟨hq.1, hq.2.1⟩
        · cases hv : (termG (facN n) r).val with
          | none => rw [hv] at e; cases e
          | some e2 =>
            have hq := HX.out.2.2.2
            rw [bind_some _ hv] at hq
            refine ⟨ofL [(h', F), e2], m2, ?_, hP.2 F e2 (H4.out _).2.2.1 ((H4.out (.cells #[.int .i64 h2.kind, .int .i64 h2.num, .string (bs h2.text), .slice k2 n2 c2, .int .i64 h2.pl] 35)).2.2.2 e2 hv).1 ((H4.out _).2.2.2 e2 hv).2, hq.1, hq.2.1, ?_⟩
            · have := suf_len (term_suf (fac_suf n) r)
              have := HX.out.1
              omega
            · rw [hq.2.2]; simp
    | false =>
      cases hy : isW bad' ⟨#[45]⟩ t with
      | true =>
        have hb0 : bad' = false ∧ isT 6 [45] t = true := by
          have hz2 : (!bad' && isT 6 [45] t) = true := hy
          simpa using hz2
        obtain ⟨hbf, hit⟩ := hb0
        subst hbf
        rw [hz] at HTk
        rw [hy] at HTm
        obtain ⟨F, m2, HX⟩ : ∃ F m2, Hid (r.length ≤ m2 ∧ r.length ≤ n ∧ ExAt true (fun g => w.heap.size ≤ g ∧ g ≠ w.heap.size ∧ g ≠ w1.heap.size) wr (h', F) ka' kn' ∧ EqR X ((termG (facN n) r).bind fun e2 l2 => exprGo (termG (facN n)) m2 (hdB 6 t, ofL [(h', F), e2]) l2) m m') := by
          obtain ⟨q1, _, q3⟩ := HL.out
          obtain ⟨F, m2, g1, g2, g3⟩ := q3 rfl
          cases m2 with
          | zero => simp at g1
          | succ m2 =>
            rw [exprGo, hit, Bool.or_true] at g3
            exact ⟨F, m2, by simp at g1; exact g1, by simp at q1; omega, g2, g3⟩
        clear HL hz hy hit
        go_wp2_with fail
        refine HNx.out.mono ?_
        rintro e w2 ⟨rfl, hb2⟩
        have H2 : Hid (∀ o, TR B b ta tn tc T w w1.heap.size (t :: r) false m' h' ka' kn' kc' (w2.alloc o) ∧ Below wr.heap.size wr (w2.alloc o)) := fun o => by
          have hb : Below wr.heap.size wr (w2.alloc o) := hb2.trans (((Below.refl _ _).alloc (Nat.le_refl _) o).mono hb2.size)
          exact ⟨HTR.out.next hb, hb⟩
        have HV2 : Hid ((w2.alloc (.cells #[.int .i64 t.kind, .int .i64 t.num, .string (bs t.text), .int .i64 (t.pl : Int)] 48)).heap[w2.heap.size]? = some (.cells #[.int .i64 t.kind, .int .i64 t.num, .string (bs t.text), .int .i64 (t.pl : Int)] 48 (0, 0)) ∧ w2.heap.size ≠ b) := ⟨heap_alloc_new w2 _, by have := HTR.out.p.lt; have := hb2.size; omega⟩
        clear hb2 HNx
        go_wp2_with fail
        refine (HTk.out _ (H2.out _).1.p).mono ?_
        rintro e w6 ⟨rfl, hk6, hp6⟩
        simp only [Bool.false_eq_true, if_false] at hp6
        have H6 : Hid (TR B b ta tn tc T w w1.heap.size (t :: r) false m' h' ka' kn' kc' w6 ∧ w6.heap[w2.heap.size]? = some (.cells #[.int .i64 t.kind, .int .i64 t.num, .string (bs t.text), .int .i64 (t.pl : Int)] 48 (0, 0)) ∧ ExAt true (fun g => w.heap.size ≤ g ∧ g ≠ w.heap.size ∧ g ≠ w1.heap.size) w6 (h', F) ka' kn') := by
          obtain ⟨cs, hb⟩ := (H2.out (.cells #[.int .i64 t.kind, .int .i64 t.num, .string (bs t.text), .int .i64 (t.pl : Int)] 48)).1.p.own
          exact ⟨(H2.out _).1.go hk6 hp6, hk6.keep HV2.out.1 HV2.out.2 (by decide), (HX.out.2.2.1.below (H2.out _).2).kr hk6 hb⟩
        clear hk6 hp6 HTk H2 HTR
        go_wp2_with fail
        refine (HTm.out _ H6.out.1.p).mono ?_
        rintro e w3 ⟨rfl, hk3, hp3⟩
        simp only [if_true] at hp3
        have H3 : Hid (TR B b ta tn tc T w w1.heap.size r false m' h' ka' kn' kc' w3 ∧ w3.heap[w2.heap.size]? = some (.cells #[.int .i64 t.kind, .int .i64 t.num, .string (bs t.text), .int .i64 (t.pl : Int)] 48 (0, 0)) ∧ ExAt true (fun g => w.heap.size ≤ g ∧ g ≠ w.heap.size ∧ g ≠ w1.heap.size) w3 (h', F) ka' kn') := by
          obtain ⟨cs, hb⟩ := H6.out.1.p.own
          exact ⟨H6.out.1.go hk3 hp3, hk3.keep H6.out.2.1 HV2.out.2 (by decide), H6.out.2.2.kr hk3 hb⟩
        clear hk3 hp3 HTm H6
        go_wp2_with fail
        refine (HFr.out r m' w3 H3.out.1.p HX.out.2.1).mono ?_
        rintro e w4 ⟨h2, k2, n2, c2, rfl, hk4, hp4, hE4⟩
        have H4 : Hid (∀ o, TR B b ta tn tc T w w1.heap.size (termG (facN n) r).rest (termG (facN n) r).val.isNone (m' ++ (termG (facN n) r).many) h' ka' kn' kc' (w4.alloc o) ∧ (w4.alloc o).heap[w2.heap.size]? = some (.cells #[.int .i64 t.kind, .int .i64 t.num, .string (bs t.text), .int .i64 (t.pl : Int)] 48 (0, 0)) ∧ ExAt true (fun g => w.heap.size ≤ g ∧ g ≠ w.heap.size ∧ g ≠ w1.heap.size) (w4.alloc o) (h', F) ka' kn' ∧
            ∀ a, (termG (facN n) r).val = some a → a.1 = h2 ∧ ExAt true (fun g => w.heap.size ≤ g ∧ g ≠ w.heap.size ∧ g ≠ w1.heap.size) (w4.alloc o) a k2 n2) := fun o => by
          obtain ⟨cs, hb⟩ := H3.out.1.p.own
          have hb9 : Below w4.heap.size w4 (w4.alloc o) := (Below.refl _ _).alloc (Nat.le_refl _) o
          refine ⟨(H3.out.1.go hk4 hp4).next hb9, heap_old (hk4.keep H3.out.2.1 HV2.out.2 (by decide)), (H3.out.2.2.kr hk4 hb).below hb9, fun a ha => ?_⟩
          obtain ⟨q1, q2⟩ := hE4 a ha
          refine ⟨q1, (q2.base fun g _ hs => ?_).below hb9⟩
          have h3 : w3.heap.size ≤ g := hs
          have h5 := lt_block H3.out.1.val
          have h6 := lt_block H3.out.1.res
          have h7 := H3.out.1.kr.size
          exact ⟨by omega, by omega, by omega⟩
        have H4b : Hid (∀ o o', TR B b ta tn tc T w w1.heap.size (termG (facN n) r).rest (termG (facN n) r).val.isNone (m' ++ (termG (facN n) r).many) h' ka' kn' kc' ((w4.alloc o).alloc o') ∧ ((w4.alloc o).alloc o').heap[w2.heap.size]? = some (.cells #[.int .i64 t.kind, .int .i64 t.num, .string (bs t.text), .int .i64 (t.pl : Int)] 48 (0, 0))) := fun o o' =>
          ⟨(H4.out o).1.next ((Below.refl _ _).alloc (Nat.le_refl _) o'), heap_old (H4.out o).2.1⟩
        have hw4 : w4.heap.size ≠ w1.heap.size ∧ w4.heap.size ≠ w2.heap.size := by
          have h5 := lt_block H3.out.1.val
          have h6 := lt_block H3.out.2.1
          have h7 := hk4.size
          exact ⟨by omega, by omega⟩
        clear hk4 hp4 hE4 H3 HV2
        have e0 := fun o => (H4.out o).1.sc.1
        have e1 := fun o => (H4.out o).1.sc.2.1
        have e2 := fun o => (H4.out o).1.sc.2.2.1
        have e3 := fun o => (H4.out o).1.sc.2.2.2.1
        have e4 := fun o => (H4.out o).1.sc.2.2.2.2
        have i0 := fun o o' => (H4b.out o o').1.sc.1
        have i1 := fun o o' => (H4b.out o o').1.sc.2.1
        have i2 := fun o o' => (H4b.out o o').1.sc.2.2.1
        have i3 := fun o o' => (H4b.out o o').1.sc.2.2.2.1
        have i4 := fun o o' => (H4b.out o o').1.sc.2.2.2.2
        have fz := fun o o' i => (H4b.out o o').1.frz i
        have t3 := fun o o' => blk (i := 3) (H4b.out o o').2 rfl
        go_wp2_with fail
        go_roundg (termG (facN n) r).rest.length
        case measure => have := suf_len (term_suf (fac_suf n) r); simp; omega
        case rel =>
          have hP := (H4.out (.cells #[.int .i64 h2.kind, .int .i64 h2.num, .string (bs h2.text), .slice k2 n2 c2, .int .i64 h2.pl] 35)).1.mul 6 t (by omega) hpl h2 k2 n2 c2 (g := w4.heap.size + 1) (by simp) rfl
          refine ⟨(termG (facN n) r).rest, (termG (facN n) r).val.isNone, m' ++ (termG (facN n) r).many, hdB 6 t, some ⟨w4.heap.size + 1, 0, none⟩, 2, 2, rfl, hP.1, ?_, fun e => ?_, fun e => ?_⟩
          · have := suf_len (term_suf (fac_suf n) r)
            have := HX.out.2.1
            omega
          · have e' : (termG (facN n) r).val = none := by simpa using e
            have hq := HX.out.2.2.2
            rw [bind_none _ e'] at hq
            exact ⟨hq.1, hq.2.1⟩
          · cases hv : (termG (facN n) r).val with
            | none => rw [hv] at e; cases e
            | some e2 =>
              have hq := HX.out.2.2.2
              rw [bind_some _ hv] at hq
              refine ⟨ofL [(h', F), e2], m2, ?_, hP.2 F e2 (H4.out _).2.2.1 ((H4.out (.cells #[.int .i64 h2.kind, .int .i64 h2.num, .string (bs h2.text), .slice k2 n2 c2, .int .i64 h2.pl] 35)).2.2.2 e2 hv).1 ((H4.out _).2.2.2 e2 hv).2, hq.1, hq.2.1, ?_⟩
              · have := suf_len (term_suf (fac_suf n) r)
                have := HX.out.1
                omega
              · rw [hq.2.2]; simp
      | false =>
        rw [hz] at HTk
        rw [hy] at HTm
        have HX : Hid (X.rest = t :: r ∧ (bad' = true → X.val = none) ∧ (bad' = false → m ++ X.many = m' ∧ ∃ F, X.val = some (h', F) ∧ ExAt true (fun g => w.heap.size ≤ g ∧ g ≠ w.heap.size ∧ g ≠ w1.heap.size) wr (h', F) ka' kn')) := by
          obtain ⟨_, q2, q3⟩ := HL.out
          cases bad' with
          | true => exact ⟨(q2 rfl).2, fun _ => (q2 rfl).1, fun e => by cases e⟩
          | false =>
            obtain ⟨F, m2, g1, g2, g3, g4, g5⟩ := q3 rfl
            have hi : (isT 6 [43] t || isT 6 [45] t) = false := by
              have q8 : isT 6 [43] t = false := by simpa [isW] using hz
              have q9 : isT 6 [45] t = false := by simpa [isW] using hy
              rw [q8, q9]; rfl
            cases m2 with
            | zero => simp at g1
            | succ m2 =>
              rw [exprGo, hi] at g3 g4 g5
              exact ⟨g4, (fun e => by cases e), fun _ => ⟨by simpa [pure'] using g5, F, g3, g2⟩⟩
        clear HL hz hy HFr
        go_wp2_with fail
        refine HNx.out.mono ?_
        rintro e w2 ⟨rfl, hb2⟩
        have H2 : Hid (∀ o, TR B b ta tn tc T w w1.heap.size (t :: r) bad' m' h' ka' kn' kc' (w2.alloc o) ∧ Below wr.heap.size wr (w2.alloc o)) := fun o => by
          have hb : Below wr.heap.size wr (w2.alloc o) := hb2.trans (((Below.refl _ _).alloc (Nat.le_refl _) o).mono hb2.size)
          exact ⟨HTR.out.next hb, hb⟩
        clear hb2 HNx
        go_wp2_with fail
        refine (HTk.out _ (H2.out _).1.p).mono ?_
        rintro e w3 ⟨rfl, hk3, hp3⟩
        simp only [Bool.false_eq_true, if_false] at hp3
        have H3 : Hid (TR B b ta tn tc T w w1.heap.size (t :: r) bad' m' h' ka' kn' kc' w3) := (H2.out _).1.go hk3 hp3
        have HE3 : Hid (∀ F, ExAt true (fun g => w.heap.size ≤ g ∧ g ≠ w.heap.size ∧ g ≠ w1.heap.size) wr (h', F) ka' kn' → ExAt true (fun g => w.heap.size ≤ g ∧ g ≠ w.heap.size ∧ g ≠ w1.heap.size) w3 (h', F) ka' kn') := fun F hE => by
          obtain ⟨cs, hb⟩ := (H2.out (.cells #[.int .i64 t.kind, .int .i64 t.num, .string (bs t.text), .int .i64 (t.pl : Int)] 48)).1.p.own
          exact (hE.below (H2.out _).2).kr hk3 hb
        clear hk3 hp3 HTk H2
        go_wp2_with fail
        refine (HTm.out _ H3.out.p).mono ?_
        rintro e w5 ⟨rfl, hk5, hp5⟩
        simp only [Bool.false_eq_true, if_false] at hp5
        have H5 : Hid (TR B b ta tn tc T w w1.heap.size (t :: r) bad' m' h' ka' kn' kc' w5) := H3.out.go hk5 hp5
        have HE5 : Hid (∀ F, ExAt true (fun g => w.heap.size ≤ g ∧ g ≠ w.heap.size ∧ g ≠ w1.heap.size) wr (h', F) ka' kn' → ExAt true (fun g => w.heap.size ≤ g ∧ g ≠ w.heap.size ∧ g ≠ w1.heap.size) w5 (h', F) ka' kn') := fun F hE => by
          obtain ⟨cs, hb⟩ := H3.out.p.own
          exact (HE3.out F hE).kr hk5 hb
        clear hk5 hp5 HTm
        obtain ⟨s0, s1, s2, s3, s4⟩ := H5.out.sc
        obtain ⟨z0, z1, z2, z3, z4, zf⟩ := H5.out.zeros
        have HD : Hid _ := H5.out.done rfl
        go_wp2
        refine bodyPost_ret (v := .agg #[.int .i64 h'.kind, .int .i64 h'.num, .string (bs h'.text), .slice ka' kn' kc', .int .i64 h'.pl]) ?_ rfl ?_
        · simp only [results, hres]
          go_simp
        · obtain ⟨d1, d2, d3⟩ := HD.out
          refine ⟨h', ka', kn', kc', rfl, d1, ?_, fun a ha => ?_⟩
          · rw [HX.out.1]
            cases bad' with
            | true => rw [HX.out.2.1 rfl]; exact d2.any _
            | false =>
              obtain ⟨x1, F, x2, _⟩ := HX.out.2.2 rfl
              rw [x2, x1]; exact d2
          · cases bad' with
            | true => rw [HX.out.2.1 rfl] at ha; cases ha
            | false =>
              obtain ⟨_, F, x2, x3⟩ := HX.out.2.2 rfl
              rw [x2] at ha
              cases ha
              exact ⟨rfl, ((HE5.out F x3).keep fun g _ hg => d3 g hg.2.1).base fun g _ hg => hg.1⟩

end Go.Proofs.Ytnnmhmlebffacaa
