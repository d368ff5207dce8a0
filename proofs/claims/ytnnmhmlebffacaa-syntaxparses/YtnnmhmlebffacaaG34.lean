/-
  The document's item. The document's item.
-/
import Derived.Test.YtnnmhmlebffacaaG33
namespace Go.Proofs.Ytnnmhmlebffacaa
open Go.RowKit Go.Deep

def zeroQ : Array Value := #[.int .i64 0, .string ⟨#[]⟩, .slice none 0 0, .int .i64 0]
def itArI (k : Int) (nm : List UInt8) (ka : Option Addr) (kn kc : Nat) (pl : Int) : Array Value := #[.int .i64 k, .string (bs nm), .slice ka kn kc, .int .i64 pl]
/-- What the rule of items leaves. -/
def IPost (B b : Nat) (ta : Option Addr) (tn tc : Nat) (T : List Tk) (m : List Int) (X : Rs It) (w : World) (e : Ending) (w' : World) : Prop :=
  ∃ (i : It) (ka : Option Addr) (kn kc : Nat), e = .returned (.agg #[.int .i64 i.kind, .string (bs i.name), .slice ka kn kc, .int .i64 i.pl]) ∧ Kr B b w w' ∧ RIs B b ta tn tc T X.rest X.val.isNone (m ++ X.many) w' ∧
    ∀ a, X.val = some a → a.kind = i.kind ∧ a.name = i.name ∧ a.pl = i.pl ∧ IsAt true (fun g => w.heap.size ≤ g) w' (a, ka, kn, kc)
/-- The item so far, in its variable; the result's variable; the reader. -/
structure IRd (B b : Nat) (ta : Option Addr) (tn tc : Nat) (T : List Tk) (w : World) (g4 : Nat) (l : List Tk) (bad : Bool) (m : List Int) (k : Int) (nm : List UInt8) (ka : Option Addr) (kn kc : Nat) (pl : Int) (W : World) : Prop where
  p : RIs B b ta tn tc T l bad m W
  kr : Kr B b w W
  nb : b < w.heap.size
  nB : B ≤ b
  n4 : w.heap.size < g4
  res : W.heap[w.heap.size]? = some (.cells zeroQ 42 (0, 0))
  val : W.heap[g4]? = some (.cells (itArI k nm ka kn kc pl) 42 (0, 0))
section
variable {B b : Nat} {ta : Option Addr} {tn tc : Nat} {T : List Tk} {w : World} {g4 : Nat} {l : List Tk} {bad : Bool} {m : List Int} {k : Int} {nm : List UInt8} {ka : Option Addr} {kn kc : Nat} {pl : Int} {W W' : World} {t : Tk} {r : List Tk}
theorem IRd.go (H : IRd B b ta tn tc T w g4 l bad m k nm ka kn kc pl W) (hk : Kr B b W W') {l' : List Tk} {bad' : Bool} {m' : List Int} (hp : RIs B b ta tn tc T l' bad' m' W') : IRd B b ta tn tc T w g4 l' bad' m' k nm ka kn kc pl W' :=
  ⟨hp, H.kr.trans hk, H.nb, H.nB, H.n4, hk.keep H.res (by have := H.nb; omega) (by decide), hk.keep H.val (by have := H.nb; have := H.n4; omega) (by decide)⟩
theorem IRd.next (H : IRd B b ta tn tc T w g4 l bad m k nm ka kn kc pl W) (hk : Below W.heap.size W W') : IRd B b ta tn tc T w g4 l bad m k nm ka kn kc pl W' := H.go (Kr.of_below hk) (H.p.below hk)
theorem IRd.sc (H : IRd B b ta tn tc T w g4 l bad m k nm ka kn kc pl W) : W.cell? ⟨g4, 0, none⟩ = some (.int .i64 k) ∧ W.cell? ⟨g4, 1, none⟩ = some (.string (bs nm)) ∧ W.cell? ⟨g4, 2, none⟩ = some (.slice ka kn kc) ∧ W.cell? ⟨g4, 3, none⟩ = some (.int .i64 pl) := ⟨blk H.val rfl, blk H.val rfl, blk H.val rfl, blk H.val rfl⟩
theorem IRd.frz (H : IRd B b ta tn tc T w g4 l bad m k nm ka kn kc pl W) (i : Nat) : W.frozen? ⟨g4, i, none⟩ = false := blkf i H.val
theorem IRd.set (H : IRd B b ta tn tc T w g4 l bad m k nm ka kn kc pl W) (i : Nat) (u : Value) (k' : Int) (nm' : List UInt8) (ka' : Option Addr) (kn' kc' : Nat) (hc : (itArI k nm ka kn kc pl).setIfInBounds i u = itArI k' nm' ka' kn' kc' pl) : IRd B b ta tn tc T w g4 l bad m k' nm' ka' kn' kc' pl (W.setCell ⟨g4, i, none⟩ u) := by
  have hnb := H.nb
  have hnB := H.nB
  have hn4 := H.n4
  exact ⟨H.p.other (by omega) (by omega) H.val (by decide) i u, H.kr.setNew (by omega) i u, hnb, hnB, hn4, heap_other H.res (by omega), heap_put H.val hc⟩
theorem IRd.step (H : IRd B b ta tn tc T w g4 (t :: r) false m k nm ka kn kc pl W) (ht : t.kind ≠ 1) : ∃ q mv, W.heap[b]? = some (.cells #[.slice ta tn tc, .int .i64 ((q : Nat) : Int), .bool false, mv] 58 (0, 0)) ∧ q ≤ 4001 ∧ IRd B b ta tn tc T w g4 r false m k nm ka kn kc pl (W.setCell ⟨b, 1, none⟩ (.int .i64 ((q : Int) + 1))) := by
  obtain ⟨m', h1, h2⟩ := H.p
  obtain ⟨q, mv, tb, tq, hk, hkn, hn, _, _, _, hb, _⟩ := h1.cells
  obtain ⟨q1, q2⟩ := h1.step ht hk hb
  exact ⟨q, mv, hb, by omega, H.go q2 ⟨m', q1, h2⟩⟩
theorem IRd.wrong (H : IRd B b ta tn tc T w g4 l bad m k nm ka kn kc pl W) : ∃ cs, W.heap[b]? = some (.cells cs 58 (0, 0)) ∧ cs[2]? = some (.bool bad) ∧ IRd B b ta tn tc T w g4 l true m k nm ka kn kc pl (W.setCell ⟨b, 2, none⟩ (.bool true)) := by
  obtain ⟨m', h1, h2⟩ := H.p
  obtain ⟨q, mv, mn, _, _, hb, _⟩ := h1.block
  obtain ⟨q1, q2⟩ := h1.bad'
  exact ⟨_, hb, rfl, H.go q2 ⟨m', q1, fun e => by cases e⟩⟩
theorem IRd.zeros (H : IRd B b ta tn tc T w g4 l bad m k nm ka kn kc pl W) : W.cell? ⟨w.heap.size, 0, none⟩ = some (.int .i64 0) ∧ W.cell? ⟨w.heap.size, 1, none⟩ = some (.string ⟨#[]⟩) ∧ W.cell? ⟨w.heap.size, 2, none⟩ = some (.slice none 0 0) ∧ W.cell? ⟨w.heap.size, 3, none⟩ = some (.int .i64 0) ∧ ∀ i, W.frozen? ⟨w.heap.size, i, none⟩ = false :=
  ⟨blk H.res rfl, blk H.res rfl, blk H.res rfl, blk H.res rfl, fun i => blkf i H.res⟩
/-- The result's variable takes what was read. -/
theorem IRd.done (H : IRd B b ta tn tc T w g4 l bad m k nm ka kn kc pl W) {W' : World} (hW : W' = (((W.setCell ⟨w.heap.size, 0, none⟩ (.int .i64 k)).setCell ⟨w.heap.size, 1, none⟩ (.string (bs nm))).setCell ⟨w.heap.size, 2, none⟩ (.slice ka kn kc)).setCell ⟨w.heap.size, 3, none⟩ (.int .i64 pl)) :
    Kr B b w W' ∧ RIs B b ta tn tc T l bad m W' ∧ ∀ g, g ≠ w.heap.size → W'.heap[g]? = W.heap[g]? := by
  have hnb := H.nb
  have hnB := H.nB
  have hoth : ∀ g, g ≠ w.heap.size → W'.heap[g]? = W.heap[g]? := fun g hg => by
    rw [hW]; exact heap_other (heap_other (heap_other (heap_other rfl hg) hg) hg) hg
  have v0 := H.res
  have v1 := heap_put (i := 0) (u := .int .i64 k) v0 rfl
  have v2 := heap_put (i := 1) (u := .string (bs nm)) v1 rfl
  have v3 := heap_put (i := 2) (u := .slice ka kn kc) v2 rfl
  have ne : w.heap.size ≠ b := by omega
  have gB : B ≤ w.heap.size := by omega
  have hp := (((H.p.other ne gB v0 (by decide) 0 (.int .i64 k)).other ne gB v1 (by decide) 1 (.string (bs nm))).other ne gB v2 (by decide) 2 (.slice ka kn kc)).other ne gB v3 (by decide) 3 (.int .i64 pl)
  have hkr := (((H.kr.setNew (Nat.le_refl _) 0 (.int .i64 k)).setNew (Nat.le_refl _) 1 (.string (bs nm))).setNew (Nat.le_refl _) 2 (.slice ka kn kc)).setNew (Nat.le_refl _) 3 (.int .i64 pl)
  rw [← hW] at hp hkr
  exact ⟨hkr, hp, hoth⟩
/-- The variable behind the next token. -/
theorem IRd.start (h : RIs B b ta tn tc T (t :: r) bad m w) (hBb : B ≤ b) {w2 : World} (hb2 : Below (w.alloc (.cells zeroQ 42)).heap.size (w.alloc (.cells zeroQ 42)) w2) :
    IRd B b ta tn tc T w (w2.heap.size + 1) (t :: r) bad m 0 [] none 0 0 (t.pl : Int) ((w2.alloc (.cells #[.int .i64 t.kind, .int .i64 t.num, .string (bs t.text), .int .i64 (t.pl : Int)] 48)).alloc (.cells #[.int .i64 0, .string ⟨#[]⟩, .slice none 0 0, .int .i64 (t.pl : Int)] 42)) ∧
    ((w2.alloc (.cells #[.int .i64 t.kind, .int .i64 t.num, .string (bs t.text), .int .i64 (t.pl : Int)] 48)).alloc (.cells #[.int .i64 0, .string ⟨#[]⟩, .slice none 0 0, .int .i64 (t.pl : Int)] 42)).heap[w2.heap.size]? = some (.cells #[.int .i64 t.kind, .int .i64 t.num, .string (bs t.text), .int .i64 (t.pl : Int)] 48 (0, 0)) ∧ w.heap.size + 1 ≤ w2.heap.size := by
  have hlt := h.lt
  have hb0 : Below w.heap.size w (w.alloc (.cells zeroQ 42)) := (Below.refl _ _).alloc (Nat.le_refl _) _
  have hs2 : w.heap.size + 1 ≤ w2.heap.size := by have := hb2.size; simpa using this
  have hb3 := below_two w2 (.cells #[.int .i64 t.kind, .int .i64 t.num, .string (bs t.text), .int .i64 (t.pl : Int)] 48) (.cells #[.int .i64 0, .string ⟨#[]⟩, .slice none 0 0, .int .i64 (t.pl : Int)] 42)
  have hb4 : Below w.heap.size w ((w2.alloc (.cells #[.int .i64 t.kind, .int .i64 t.num, .string (bs t.text), .int .i64 (t.pl : Int)] 48)).alloc (.cells #[.int .i64 0, .string ⟨#[]⟩, .slice none 0 0, .int .i64 (t.pl : Int)] 42)) := (hb0.trans (hb2.mono hb0.size)).trans (hb3.mono (by omega))
  refine ⟨⟨h.below hb4, Kr.of_below hb4, hlt, hBb, by omega, ?_, twoN_new w2 _ _⟩, heap_old (heap_alloc_new w2 _), hs2⟩
  rw [hb3.block _ (by omega), hb2.block _ (by simp)]
  exact heap_alloc_new w _
end
theorem bind_pm {α β : Type} (x : Rs α) (g : α → β) : (x.bind fun a l => pure' (g a) l) = x.map g := by
  cases hx : x.val with
  | none => rw [bind_none _ hx]; unfold Rs.map; rw [hx]; rfl
  | some a => rw [bind_some _ hx]; unfold Rs.map; rw [hx]; simp [pure']
theorem close_plain {α : Type} (s : ByteArray) (X2 : Rs α) {t2 : Tk} {r2 : List Tk} (h : X2.rest = t2 :: r2) : (closeG s.data.toList X2).rest = (if isW X2.val.isNone s t2 then r2 else t2 :: r2) ∧ (closeG s.data.toList X2).val.isNone = (!isW X2.val.isNone s t2) ∧ ((closeG s.data.toList X2).val.isNone = false → (closeG s.data.toList X2).many = X2.many) ∧ ∀ a, (closeG s.data.toList X2).val = some a → X2.val = some a := by
  cases hv : X2.val with
  | none =>
    have hy : isW (none : Option α).isNone s t2 = false := rfl
    unfold closeG
    rw [bind_none _ hv, hy]
    exact ⟨h, rfl, (fun e => by cases e), fun a ha => by cases ha⟩
  | some a =>
    have hy : isW (some a : Option α).isNone s t2 = isT 6 s.data.toList t2 := rfl
    unfold closeG
    rw [bind_some _ hv, h, hy, signG]
    cases hd : isT 6 s.data.toList t2 with
    | true => exact ⟨rfl, rfl, (fun _ => by simp [pure', Rs.bind]), fun b hb => hb⟩
    | false => exact ⟨rfl, rfl, (fun e => by cases e), fun b hb => by cases hb⟩
theorem rs_isNone {α β : Type} (x : Rs α) (f : α → β) : (x.map f).val.isNone = x.val.isNone := by
  show (x.val.map f).isNone = _
  cases x.val <;> rfl
theorem rs_some {α β : Type} {x : Rs α} {f : α → β} {y : β} (h : (x.map f).val = some y) : ∃ a, x.val = some a ∧ y = f a := by
  have h' : x.val.map f = some y := h
  cases hv : x.val with
  | none => rw [hv] at h'; cases h'
  | some a => rw [hv] at h'; cases h'; exact ⟨a, rfl, rfl⟩
/-- A let's name, sign and expression. -/
theorem let_plain (ex : List Tk → Rs Ex) (l : List Tk) {t1 : Tk} {r1 : List Tk} (h1 : (nameG l).rest = t1 :: r1) :
    ∃ l2 bad2, (if isW (nameG l).val.isNone ⟨#[61]⟩ t1 then r1 else t1 :: r1) = l2 ∧ (!isW (nameG l).val.isNone ⟨#[61]⟩ t1) = bad2 ∧
      (bodyG ex 1 l).rest = (lift bad2 ex l2).rest ∧ (bodyG ex 1 l).val.isNone = (lift bad2 ex l2).val.isNone ∧
      ((lift bad2 ex l2).val.isNone = false → (bodyG ex 1 l).many = (nameG l).many ++ (lift bad2 ex l2).many) ∧
      ∀ p, (bodyG ex 1 l).val = some p → ∃ a c, (nameG l).val = some a ∧ (lift bad2 ex l2).val = some c ∧ p = (a, ofL [c]) := by
  have hb : bodyG ex 1 l = (nameG l).bind fun s l1 => (signG [61] l1).bind fun _ l2 => (ex l2).map fun e => (s, ofL [e]) := by
    unfold bodyG
    rw [if_pos rfl]
    congr 1; funext s l1; congr 1; funext _ l2
    show ((oneG ex l2).bind fun f l3 => pure' (s, f) l3) = _
    rw [bind_pm]
    show ((ex l2).bind fun a l1 => pure' (ofL [a]) l1).map _ = _
    rw [bind_pm]
    unfold Rs.map
    simp only [Option.map_map]
    rfl
  have hcase : (nameG l).val = none ∨ ∃ a, (nameG l).val = some a := by
    cases (nameG l).val with
    | none => exact .inl rfl
    | some a => exact .inr ⟨a, rfl⟩
  rcases hcase with hv | ⟨a, hv⟩
  · have hy : isW (nameG l).val.isNone ⟨#[61]⟩ t1 = false := by rw [hv]; rfl
    refine ⟨t1 :: r1, true, by rw [hy]; rfl, by rw [hy]; rfl, ?_⟩
    rw [hb, bind_none _ hv]
    exact ⟨h1, rfl, (fun e => by cases e), fun F hF => by cases hF⟩
  · have hy : isW (nameG l).val.isNone ⟨#[61]⟩ t1 = isT 6 [61] t1 := by rw [hv]; rfl
    by_cases hd : isT 6 [61] t1 = true
    · refine ⟨r1, false, by rw [hy, hd]; rfl, by rw [hy, hd]; rfl, ?_⟩
      have hB : bodyG ex 1 l = ⟨((ex r1).map fun e => (a, ofL [e])).val, ((ex r1).map fun e => (a, ofL [e])).rest, (nameG l).many ++ ((ex r1).map fun e => (a, ofL [e])).many⟩ := by
        rw [hb, bind_some _ hv, h1, signG, if_pos hd, pure_bind]
      rw [hB, lift_false]
      refine ⟨rfl, rs_isNone _ _, fun _ => rfl, fun p hp => ?_⟩
      obtain ⟨c, h3, h4⟩ := rs_some hp
      exact ⟨a, c, hv, h3, h4⟩
    · have hd' : isT 6 [61] t1 = false := by simpa using hd
      refine ⟨t1 :: r1, true, by rw [hy, hd']; rfl, by rw [hy, hd']; rfl, ?_⟩
      have hB : bodyG ex 1 l = ⟨none, t1 :: r1, (nameG l).many ++ []⟩ := by
        rw [hb, bind_some _ hv, h1, signG, if_neg hd]; rfl
      rw [hB]
      exact ⟨rfl, rfl, (fun e => by cases e), fun F hF => by cases hF⟩
theorem kind_in (s : List UInt8) : InR (itemKindB s) := by
  unfold itemKindB InR
  repeat' split
  all_goals omega

end Go.Proofs.Ytnnmhmlebffacaa
namespace Go.Proofs.Ytnnmhmlebffacaa
open Go.RowKit Go.Deep

set_option maxRecDepth 20000 in
set_option maxHeartbeats 4000000 in
theorem iR_mode {B b : Nat} {ta : Option Addr} {tn tc : Nat} {T : List Tk} {m : List Int} (w : World) {t : Tk} {r : List Tk} (h : RIs B b ta tn tc T (t :: r) false m w) (hT : ∀ t ∈ T, WdT t) (hBb : B ≤ b) (hk : t.kind = 4) (hK0 : itemKindB t.text ≠ 0) (hK : itemKindB t.text = 7) :
    Calls Try.prog 27 #[.pointer (some ⟨b, 0, none⟩)] w (IPost B b ta tn tc T m (itemG (exprN mx) (t :: r)) w) := by
  have hres : Try.f27.results = #[.cell 2 42] := by kernel_rfl
  have hok : TkOk t := by
    obtain ⟨m', h1, _⟩ := h
    exact h1.toks.fits t (h1.mem t (by simp))
  have hp0 : RIs B b ta tn tc T (t :: r) false m (w.alloc (.cells zeroQ 42)) := h.below ((Below.refl _ _).alloc (Nat.le_refl _) _)
  have HNx : Hid (Calls Try.prog 26 #[.pointer (some ⟨b, 0, none⟩)] (w.alloc (.cells zeroQ 42)) fun e w' => e = .returned (.agg #[.int .i64 t.kind, .int .i64 t.num, .string (bs t.text), .int .i64 (t.pl : Int)]) ∧ Below (w.alloc (.cells zeroQ 42)).heap.size (w.alloc (.cells zeroQ 42)) w') := hp0.nextC
  have H0 : Hid (RIs B b ta tn tc T (t :: r) false m w ∧ TkOk t) := ⟨h, hok⟩
  have hlt := h.lt
  have k4 : (t.kind == 4) = true := by rw [beq_iff_eq]; exact hk
  have hn1 : t.kind ≠ 1 := by rw [hk]; decide
  have HKd : Hid (∀ W, Calls Try.prog 43 #[.string (bs t.text)] W fun e w' => e = .returned (.int .i64 (itemKindB t.text)) ∧ Below W.heap.size W w') := fun W => kindR_calls (bs t.text) W
  have HX : Hid (itemG (exprN mx) (t :: r) = ((closeG [59] (bodyG (exprN mx) (itemKindB t.text) r)).map fun b => (⟨itemKindB t.text, b.1, b.2, t.pl⟩ : It)) ∧ InR (itemKindB t.text)) := by
    refine ⟨?_, kind_in t.text⟩
    show (if t.kind = 4 ∧ itemKindB t.text ≠ 0 then _ else _) = _
    rw [if_pos ⟨hk, hK0⟩]
  have hz0 : (itemKindB t.text == 0) = false := by rw [beq_eq_false_iff_ne]; exact hK0
  have HX2 : Hid (bodyG (exprN mx) (itemKindB t.text) r = (wayG r).map fun s => (s, .nil)) := by
    show _ = _
    rw [hK, bodyG, if_neg (by decide), if_pos rfl]
    exact bind_pm _ _
  have z1 : (itemKindB t.text == 1) = false := by rw [hK]; rfl
  have z7 : (itemKindB t.text == 7) = true := by rw [hK]; rfl
  have HWy : Hid (∀ W, RIs B b ta tn tc T r false m W → Calls Try.prog 47 #[.pointer (some ⟨b, 0, none⟩)] W (SPost B b ta tn tc T m (wayG r) W)) := fun W hW => by
    have := wayR_calls W hW
    rw [lift_false] at this
    exact this
  generalize bodyG (exprN mx) (itemKindB t.text) r = X2 at *
  generalize itemKindB t.text = K at *
  clear hK hK0
  clear hk
  clear h hp0 hok
  go_enter Try.func27, Try.ntmps27
  go_wp2_with fail
  refine HNx.out.mono ?_
  rintro e w2 ⟨rfl, hb2⟩
  obtain ⟨hT3, htb3, hs3⟩ := IRd.start H0.out.1 hBb hb2
  have H3 : Hid (IRd B b ta tn tc T w (w2.heap.size + 1) (t :: r) false m 0 [] none 0 0 (t.pl : Int) ((w2.alloc (.cells #[.int .i64 t.kind, .int .i64 t.num, .string (bs t.text), .int .i64 (t.pl : Int)] 48)).alloc (.cells #[.int .i64 0, .string ⟨#[]⟩, .slice none 0 0, .int .i64 (t.pl : Int)] 42)) ∧ w.heap.size + 1 ≤ w2.heap.size) := ⟨hT3, hs3⟩
  have tb0 := blk (i := 0) htb3 rfl
  have tb2 := blk (i := 2) htb3 rfl
  clear hb2 HNx hT3 htb3
  go_wp2_with fail
  refine (HKd.out _).mono ?_
  rintro e w4 ⟨rfl, hb4⟩
  have hT4 := H3.out.1.next hb4
  have hT4k := hT4.set 0 (.int .i64 K) K [] none 0 0 rfl
  obtain ⟨x0, x1, x2, x3⟩ := hT4.sc
  have f4 := hT4.frz
  obtain ⟨q, mv, hbk, hk4, hT5⟩ := hT4k.step hn1
  have hb1 := blk (i := 1) hbk rfl
  have hf1 := blkf 1 hbk
  have y0 := hT5.sc.1
  have yk := hT4k.sc.1
  have H5 : Hid (IRd B b ta tn tc T w (w2.heap.size + 1) r false m K [] none 0 0 (t.pl : Int) ((w4.setCell ⟨w2.heap.size + 1, 0, none⟩ (.int .i64 K)).setCell ⟨b, 1, none⟩ (.int .i64 ((q : Int) + 1))) ∧ w.heap.size + 1 ≤ w2.heap.size) := ⟨hT5, hs3⟩
  clear hT4 hT4k hT5 hbk H3 hb4 HKd
  go_wp2_with fail
  refine (HWy.out _ H5.out.1.p).mono ?_
  rintro e w7 ⟨s7, rfl, hk7, hp7, hs7, hl7⟩
  have hT7 := H5.out.1.go hk7 hp7
  have hT8 := hT7.set 1 (.string (bs s7)) K s7 none 0 0 rfl
  obtain ⟨u0, u1, u2, u3⟩ := hT7.sc
  have f7 := hT7.frz
  have H8 : Hid (IRd B b ta tn tc T w (w2.heap.size + 1) X2.rest X2.val.isNone (m ++ X2.many) K s7 none 0 0 (t.pl : Int) (w7.setCell ⟨w2.heap.size + 1, 1, none⟩ (.string (bs s7))) ∧ ∀ p, X2.val = some p → p.1 = s7 ∧ s7.length ≤ 4000 ∧ 0 ≤ maxLen ∧ FoAt true (fun g => w.heap.size ≤ g ∧ g ≠ w.heap.size ∧ g ≠ w2.heap.size + 1) (w7.setCell ⟨w2.heap.size + 1, 1, none⟩ (.string (bs s7))) p.2 none 0) := by
    rw [HX2.out, rs_isNone]
    refine ⟨hT8, fun p hp => ?_⟩
    obtain ⟨a, h1, rfl⟩ := rs_some hp
    exact ⟨hs7 a h1, hl7, Nat.zero_le _, rfl⟩
  clear hk7 hp7 hs7 hl7 hT7 hT8 H5 HWy HX2
  obtain ⟨t2, r2, hr2⟩ := H8.out.1.p.here1
  have ht2 : WdT t2 := hT t2 (H8.out.1.p.mem t2 (by rw [hr2]; simp))
  have HRs : Hid (X2.rest = t2 :: r2) := hr2
  have HWt : Hid (∀ W, RIs B b ta tn tc T X2.rest X2.val.isNone (m ++ X2.many) W → Calls Try.prog 45 #[.pointer (some ⟨b, 0, none⟩), .string ⟨#[59]⟩] W fun e w' => e = .returned (.tuple #[]) ∧ Kr B b W w' ∧ RIs B b ta tn tc T (if isW X2.val.isNone ⟨#[59]⟩ t2 then r2 else t2 :: r2) (!isW X2.val.isNone ⟨#[59]⟩ t2) (m ++ X2.many) w') := fun W hW => by
    rw [HRs.out] at hW
    exact hW.wantsC _ (by decide) ht2
  clear hr2 ht2
  go_wp2_with fail
  refine (HWt.out _ H8.out.1.p).mono ?_
  rintro e w9 ⟨rfl, hk9, hp9⟩
  have hT9 := H8.out.1.go hk9 hp9
  have HE9 : Hid (∀ p, X2.val = some p → p.1 = s7 ∧ s7.length ≤ 4000 ∧ 0 ≤ maxLen ∧ FoAt true (fun g => w.heap.size ≤ g ∧ g ≠ w.heap.size ∧ g ≠ w2.heap.size + 1) w9 p.2 none 0) := fun p hp => by
    obtain ⟨cs, hb⟩ := H8.out.1.p.own
    obtain ⟨g1, g0, g2, g3⟩ := H8.out.2 p hp
    exact ⟨g1, g0, g2, g3.kr hk9 hb⟩
  obtain ⟨a0, a1, a2, a3⟩ := hT9.sc
  obtain ⟨z0, z1, z2, z3, zf⟩ := hT9.zeros
  have HD : Hid _ := hT9.done rfl
  clear hk9 hp9 hT9 H8 HWt
  go_wp2
  refine bodyPost_ret (v := .agg #[.int .i64 K, .string (bs s7), .slice none 0 0, .int .i64 (t.pl : Int)]) ?_ rfl ?_
  · simp only [results, hres]
    go_simp
  · obtain ⟨d1, d2, d3⟩ := HD.out
    obtain ⟨y1, y2, y3, y4⟩ := close_plain ⟨#[59]⟩ X2 HRs.out
    have hCX : closeG (⟨#[59]⟩ : ByteArray).data.toList X2 = closeG [59] X2 := rfl
    rw [hCX] at y1 y2 y3 y4
    rw [HX.out.1]
    refine ⟨⟨K, s7, .nil, t.pl⟩, none, 0, 0, rfl, d1, ?_, fun a ha => ?_⟩
    · rw [rs_isNone]
      show RIs B b ta tn tc T (closeG [59] X2).rest _ (m ++ (closeG [59] X2).many) _
      cases hq : (closeG [59] X2).val.isNone with
      | true =>
        rw [hq] at y2
        rw [← y2, ← y1] at d2
        exact d2.any _
      | false =>
        rw [y3 hq]
        rw [← y2, ← y1, hq] at d2
        exact d2
    · obtain ⟨p, hp, rfl⟩ := rs_some ha
      obtain ⟨g1, g0, g2, g3⟩ := HE9.out p (y4 p hp)
      refine ⟨rfl, g1, rfl, ⟨⟨?_, ?_, ?_⟩, g2, (foAt_keep (fun g _ hg => d3 g hg.2.1) g3).base fun g _ hg => hg.1⟩⟩
      · exact HX.out.2
      · show p.1.length ≤ maxLen
        rw [g1]
        have : (4000 : Nat) ≤ maxLen := by decide
        omega
      · have := H0.out.2.pl
        show InR (t.pl : Int)
        unfold InR
        omega

end Go.Proofs.Ytnnmhmlebffacaa
