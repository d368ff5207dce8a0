/-
  The document's reader: is, takes, wants. What the document's reader leaves behind a rule; what stands in memory while it reads terms and expressions.
-/
import Derived.Test.YtnnmhmlebffacaaG12
import Derived.Test.YtnnmhmlebffacaaG22
namespace Go.Proofs.Ytnnmhmlebffacaa
open Go.RowKit Go.Deep

/-- A word is no sign. -/
def WdT (t : Tk) : Prop := t.kind = 4 → wordB t.text = true
/-- Is it this sign, and nothing wrong so far? -/
def isW (bad : Bool) (s : ByteArray) (t : Tk) : Bool := !bad && isT 6 s.data.toList t
theorem isW_eq (bad : Bool) (s : ByteArray) (t : Tk) (hs : wordB s.data.toList = false) (ht : WdT t) : isW bad s t = (!bad && (((t.kind == 4) || (t.kind == 6)) && ((bs t.text).toList == s.toList))) := by
  unfold isW
  rw [isT_eq]
  by_cases h4 : t.kind = 4
  · have hne : ((bs t.text).toList == s.toList) = false := by
      rw [bs_toList, ByteArray.toList_eq, beq_eq_false_iff_ne]
      intro e
      rw [← e, ht h4] at hs
      cases hs
    rw [hne]; simp
  · have : (t.kind == 4) = false := by rw [beq_eq_false_iff_ne]; exact h4
    rw [this]; simp
set_option maxRecDepth 20000 in
set_option maxHeartbeats 4000000 in
theorem isR_calls {B b : Nat} {ta : Option Addr} {tn tc : Nat} {T : List Tk} {bad : Bool} {m : List Int} (w : World) {t : Tk} {r : List Tk} (h : RAt B b ta tn tc T (t :: r) bad m w) (s : ByteArray) (hs : wordB s.data.toList = false) (ht : WdT t) :
    Calls Try.prog 89 #[.pointer (some ⟨b, 0, none⟩), .string s] w fun e w' => e = .returned (.bool (isW bad s t)) ∧ Below w.heap.size w w' := by
  have HC : Hid (Calls Try.prog 26 #[.pointer (some ⟨b, 0, none⟩)] w fun e w' => e = .returned (.agg #[.int .i64 t.kind, .int .i64 t.num, .string (bs t.text), .int .i64 (t.pl : Int)]) ∧ Below w.heap.size w w') := nextR_calls w h
  have HX : Hid (isW bad s t = (!bad && (((t.kind == 4) || (t.kind == 6)) && ((bs t.text).toList == s.toList)))) := isW_eq bad s t hs ht
  obtain ⟨k, mv, mn, _, _, hb, _⟩ := h.block
  have b2 := blk (i := 2) hb rfl
  generalize isW bad s t = z at *
  generalize t.kind = x1 at *
  generalize t.num = x2 at *
  generalize bs t.text = x3 at *
  generalize t.pl = x4 at *
  clear h hb ht hs
  cases hk4 : (x1 == 4) <;> cases hk6 : (x1 == 6) <;> cases bad <;> cases hs : (x3.toList == s.toList) <;> (
    rw [hk4, hk6, hs] at HX
    go_enter Try.func89, Try.ntmps89
    go_wp2_with fail
    refine HC.out.mono ?_
    rintro e w1 ⟨rfl, hb1⟩
    have HB : Hid (∀ o, Below w.heap.size w (w1.alloc o)) := fun o => hb1.alloc hb1.size o
    have b2' := fun o => keepc (hb1.trans (((Below.refl w1.heap.size w1).alloc (Nat.le_refl _) o).mono hb1.size)) b2
    clear hb1 HC b2
    go_wp2
    go_ret
    exact ⟨ret_bool HX.out.symm, HB.out _⟩)
set_option maxRecDepth 20000 in
set_option maxHeartbeats 4000000 in
theorem takes_calls {B b : Nat} {ta : Option Addr} {tn tc : Nat} {T : List Tk} {bad : Bool} {m : List Int} (w : World) {t : Tk} {r : List Tk} (h : RAt B b ta tn tc T (t :: r) bad m w) (s : ByteArray) (hs : wordB s.data.toList = false) (ht : WdT t) :
    Calls Try.prog 75 #[.pointer (some ⟨b, 0, none⟩), .string s] w fun e w' => e = .returned (.bool (isW bad s t)) ∧ Kr B b w w' ∧ RAt B b ta tn tc T (if isW bad s t then r else t :: r) bad m w' := by
  have HC : Hid (Calls Try.prog 89 #[.pointer (some ⟨b, 0, none⟩), .string s] w fun e w' => e = .returned (.bool (isW bad s t)) ∧ Below w.heap.size w w') := isR_calls w h s hs ht
  have hlt := h.lt
  cases hz : isW bad s t with
  | false =>
    rw [hz] at HC
    have HR : Hid (RAt B b ta tn tc T (t :: r) bad m w) := h
    clear h hz hs ht
    go_enter Try.func75, Try.ntmps75
    go_wp2_with fail
    refine HC.out.mono ?_
    rintro e w1 ⟨rfl, hb1⟩
    have HB : Hid (Kr B b w w1 ∧ RAt B b ta tn tc T (t :: r) bad m w1) := ⟨Kr.of_below hb1, HR.out.below hb1⟩
    clear hb1 HC HR
    go_wp2
    go_ret
    exact ⟨rfl, HB.out.1, HB.out.2⟩
  | true =>
    rw [hz] at HC
    have hk1 : t.kind ≠ 1 := by
      unfold isW isT at hz
      simp only [Bool.and_eq_true, decide_eq_true_eq] at hz
      rw [hz.2.1]; decide
    have HR : Hid (RAt B b ta tn tc T (t :: r) bad m w ∧ t.kind ≠ 1) := ⟨h, hk1⟩
    clear h hz hs ht hk1
    go_enter Try.func75, Try.ntmps75
    go_wp2_with fail
    refine HC.out.mono ?_
    rintro e w1 ⟨rfl, hb1⟩
    have HR1 : Hid (RAt B b ta tn tc T (t :: r) bad m w1) := HR.out.1.below hb1
    obtain ⟨k, mv, tb, to, hk, hkn, hn, -, -, -, hb, -⟩ := HR1.out.cells
    have b1 := blk (i := 1) hb rfl
    have f1 := blkf 1 hb
    have HN : Hid (RAt B b ta tn tc T r bad m (w1.setCell ⟨b, 1, none⟩ (.int .i64 ((k : Int) + 1))) ∧ Kr B b w (w1.setCell ⟨b, 1, none⟩ (.int .i64 ((k : Int) + 1)))) := by
      obtain ⟨q1, q2⟩ := HR1.out.step HR.out.2 hk hb
      exact ⟨q1, (Kr.of_below hb1).trans q2⟩
    clear hb1 HC HR HR1 hb hk
    go_wp2
    go_ret
    exact ⟨rfl, HN.out.2, HN.out.1⟩
/-- What wants leaves. -/
def wantL (bad : Bool) (s : ByteArray) (t : Tk) (r : List Tk) : List Tk := if isW bad s t then r else t :: r
set_option maxRecDepth 20000 in
set_option maxHeartbeats 4000000 in
theorem wants_calls {B b : Nat} {ta : Option Addr} {tn tc : Nat} {T : List Tk} {bad : Bool} {m : List Int} (w : World) {t : Tk} {r : List Tk} (h : RAt B b ta tn tc T (t :: r) bad m w) (s : ByteArray) (hs : wordB s.data.toList = false) (ht : WdT t) :
    Calls Try.prog 45 #[.pointer (some ⟨b, 0, none⟩), .string s] w fun e w' => e = .returned (.tuple #[]) ∧ Kr B b w w' ∧ RAt B b ta tn tc T (if isW bad s t then r else t :: r) (!isW bad s t) m w' := by
  have HC : Hid (Calls Try.prog 75 #[.pointer (some ⟨b, 0, none⟩), .string s] w fun e w' => e = .returned (.bool (isW bad s t)) ∧ Kr B b w w' ∧ RAt B b ta tn tc T (if isW bad s t then r else t :: r) bad m w') := takes_calls w h s hs ht
  cases hz : isW bad s t with
  | false =>
    rw [hz] at HC
    clear h hz hs ht
    go_enter Try.func45, Try.ntmps45
    go_wp2_with fail
    refine HC.out.mono ?_
    rintro e w1 ⟨rfl, hk1, hR1⟩
    simp only [Bool.false_eq_true, if_false] at hR1
    obtain ⟨k, mv, mn, _, _, hb, _⟩ := hR1.block
    have b2 := blk (i := 2) hb rfl
    have f2 := blkf 2 hb
    have HN : Hid (RAt B b ta tn tc T (t :: r) true m (w1.setCell ⟨b, 2, none⟩ (.bool true)) ∧ Kr B b w (w1.setCell ⟨b, 2, none⟩ (.bool true))) := by
      obtain ⟨q1, q2⟩ := hR1.bad'
      exact ⟨q1, hk1.trans q2⟩
    clear hk1 hR1 hb HC
    go_wp2
    go_end0
    exact ⟨rfl, HN.out.2, HN.out.1⟩
  | true =>
    rw [hz] at HC
    have hbad : bad = false := by
      unfold isW at hz
      simp only [Bool.and_eq_true, Bool.not_eq_true'] at hz
      exact hz.1
    subst hbad
    clear h hz hs ht
    go_enter Try.func45, Try.ntmps45
    go_wp2_with fail
    refine HC.out.mono ?_
    rintro e w1 ⟨rfl, hk1, hR1⟩
    simp only [if_true] at hR1
    have HN : Hid (RAt B b ta tn tc T r false m w1 ∧ Kr B b w w1) := ⟨hR1, hk1⟩
    clear hk1 hR1 HC
    go_wp2
    go_end0
    exact ⟨rfl, HN.out.2, HN.out.1⟩
end Go.Proofs.Ytnnmhmlebffacaa
namespace Go.Proofs.Ytnnmhmlebffacaa
open Go.RowKit Go.Deep

/-- A rule, where something may be wrong already: then nothing is read. -/
def lift {α : Type} (bad : Bool) (G : List Tk → Rs α) (l : List Tk) : Rs α := if bad then ⟨none, l, []⟩ else G l
theorem lift_true {α : Type} (G : List Tk → Rs α) (l : List Tk) : lift true G l = ⟨none, l, []⟩ := rfl
theorem lift_false {α : Type} (G : List Tk → Rs α) (l : List Tk) : lift false G l = G l := rfl
/-- The reader, where the places of what is too many matter only as long as nothing is wrong. -/
def RIs (B b : Nat) (ta : Option Addr) (tn tc : Nat) (T l : List Tk) (bad : Bool) (m : List Int) (w : World) : Prop :=
  ∃ m', RAt B b ta tn tc T l bad m' w ∧ (bad = false → m' = m)
section
variable {B b : Nat} {ta : Option Addr} {tn tc : Nat} {T l : List Tk} {bad : Bool} {m : List Int} {w w' : World}
theorem RAt.ris (h : RAt B b ta tn tc T l bad m w) : RIs B b ta tn tc T l bad m w := ⟨m, h, fun _ => rfl⟩
theorem RIs.below (h : RIs B b ta tn tc T l bad m w) (hb : Below w.heap.size w w') : RIs B b ta tn tc T l bad m w' := by
  obtain ⟨m', h1, h2⟩ := h
  exact ⟨m', h1.below hb, h2⟩
theorem RIs.lt (h : RIs B b ta tn tc T l bad m w) : b < w.heap.size := by
  obtain ⟨m', h1, _⟩ := h
  exact h1.lt
theorem RIs.len (h : RIs B b ta tn tc T l bad m w) : l.length ≤ 4001 := by
  obtain ⟨m', h1, _⟩ := h
  exact h1.len
theorem RIs.here1 (h : RIs B b ta tn tc T l bad m w) : ∃ t r, l = t :: r := by
  obtain ⟨m', h1, _⟩ := h
  exact h1.here1
theorem RIs.mem (h : RIs B b ta tn tc T l bad m w) : ∀ t ∈ l, t ∈ T := by
  obtain ⟨m', h1, _⟩ := h
  exact h1.mem
theorem RIs.own (h : RIs B b ta tn tc T l bad m w) : ∃ cs, w.heap[b]? = some (.cells cs 58 (0, 0)) := by
  obtain ⟨m', h1, _⟩ := h
  obtain ⟨k, mv, mn, _, _, hb, _⟩ := h1.block
  exact ⟨_, hb⟩
/-- A store into a new block that is not of numbers leaves the reader. -/
theorem RIs.other (h : RIs B b ta tn tc T l bad m w) {g : Nat} (hg : g ≠ b) (hB : B ≤ g) {cs : Array Value} {ty : TypeId} (hc : w.heap[g]? = some (.cells cs ty (0, 0))) (ht : ty ≠ 3) (i : Nat) (u : Value) : RIs B b ta tn tc T l bad m (w.setCell ⟨g, i, none⟩ u) := by
  obtain ⟨m', h1, h2⟩ := h
  obtain ⟨k, mv, mn, q1, q2, q3, q4⟩ := h1.block
  have hoth : ∀ x, x ≠ g → (w.setCell ⟨g, i, none⟩ u).heap[x]? = w.heap[x]? := fun x hx => heap_other rfl hx
  refine ⟨m', ⟨⟨k, mv, mn, q1, q2, by rw [hoth b (Ne.symm hg)]; exact q3, owned_of_block q4 fun x _ _ hx => hoth x (fun e => by rw [e, hc] at hx; cases hx; exact ht rfl)⟩, h1.toks.keep fun x hx => hoth x.block (by have := h1.low x hx; omega), h1.low, h1.nb, h1.last, h1.few, h1.cnt⟩, h2⟩
end
theorem ExAt.kr {B b : Nat} {S : Nat → Prop} {w w' : World} {e : Ex} {ka : Option Addr} {kn : Nat} (h : ExAt true S w e ka kn) (hk : Kr B b w w') {cs : Array Value} (hb : w.heap[b]? = some (.cells cs 58 (0, 0))) : ExAt true S w' e ka kn := ⟨h.hd, h.few, h.kids.kr hk hb⟩
/-- What a rule of expressions leaves: a value, and the reader behind it. -/
def RPost (B b : Nat) (ta : Option Addr) (tn tc : Nat) (T : List Tk) (m : List Int) (X : Rs Ex) (w : World) (e : Ending) (w' : World) : Prop :=
  ∃ h ka kn kc, e = .returned (.agg #[.int .i64 h.kind, .int .i64 h.num, .string (bs h.text), .slice ka kn kc, .int .i64 h.pl]) ∧ Kr B b w w' ∧ RIs B b ta tn tc T X.rest X.val.isNone (m ++ X.many) w' ∧
    ∀ a, X.val = some a → a.1 = h ∧ ExAt true (fun g => w.heap.size ≤ g) w' a ka kn
/-- The expression so far, in its variable; the result's variable; the reader. -/
structure TR (B b : Nat) (ta : Option Addr) (tn tc : Nat) (T : List Tk) (w : World) (g3 : Nat) (l : List Tk) (bad : Bool) (m : List Int) (h : Hd) (ka : Option Addr) (kn kc : Nat) (W : World) : Prop where
  p : RIs B b ta tn tc T l bad m W
  kr : Kr B b w W
  nb : b < w.heap.size
  nB : B ≤ b
  n3 : w.heap.size < g3
  res : W.heap[w.heap.size]? = some (.cells zero5 35 (0, 0))
  val : W.heap[g3]? = some (.cells (exArr h ka kn kc) 35 (0, 0))
section
variable {B b : Nat} {ta : Option Addr} {tn tc : Nat} {T : List Tk} {w : World} {g3 : Nat} {l : List Tk} {bad : Bool} {m : List Int} {h : Hd} {ka : Option Addr} {kn kc : Nat} {W W' : World}
theorem TR.go (H : TR B b ta tn tc T w g3 l bad m h ka kn kc W) (hk : Kr B b W W') {l' : List Tk} {bad' : Bool} {m' : List Int} (hp : RIs B b ta tn tc T l' bad' m' W') : TR B b ta tn tc T w g3 l' bad' m' h ka kn kc W' :=
  ⟨hp, H.kr.trans hk, H.nb, H.nB, H.n3, hk.keep H.res (by have := H.nb; omega) (by decide), hk.keep H.val (by have := H.nb; have := H.n3; omega) (by decide)⟩
theorem TR.next (H : TR B b ta tn tc T w g3 l bad m h ka kn kc W) (hk : Below W.heap.size W W') : TR B b ta tn tc T w g3 l bad m h ka kn kc W' := H.go (Kr.of_below hk) (H.p.below hk)
theorem TR.sc (H : TR B b ta tn tc T w g3 l bad m h ka kn kc W) : SC g3 h ka kn kc W := ⟨blk H.val rfl, blk H.val rfl, blk H.val rfl, blk H.val rfl, blk H.val rfl⟩
theorem TR.frz (H : TR B b ta tn tc T w g3 l bad m h ka kn kc W) (i : Nat) : W.frozen? ⟨g3, i, none⟩ = false := blkf i H.val
/-- The variable is set anew. -/
theorem TR.put (H : TR B b ta tn tc T w g3 l bad m h ka kn kc W) (h' : Hd) (k' : Option Addr) (n' c' : Nat) {W' : World} (hW : W' = ((((W.setCell ⟨g3, 0, none⟩ (.int .i64 h'.kind)).setCell ⟨g3, 1, none⟩ (.int .i64 h'.num)).setCell ⟨g3, 2, none⟩ (.string (bs h'.text))).setCell ⟨g3, 3, none⟩ (.slice k' n' c')).setCell ⟨g3, 4, none⟩ (.int .i64 h'.pl)) :
    TR B b ta tn tc T w g3 l bad m h' k' n' c' W' ∧ ∀ g, g ≠ g3 → W'.heap[g]? = W.heap[g]? := by
  have hnb := H.nb
  have hnB := H.nB
  have hn3 := H.n3
  have hoth : ∀ g, g ≠ g3 → W'.heap[g]? = W.heap[g]? := fun g hg => by
    rw [hW]; exact heap_other (heap_other (heap_other (heap_other (heap_other rfl hg) hg) hg) hg) hg
  have v0 := H.val
  have v1 := heap_put (i := 0) (u := .int .i64 h'.kind) v0 rfl
  have v2 := heap_put (i := 1) (u := .int .i64 h'.num) v1 rfl
  have v3 := heap_put (i := 2) (u := .string (bs h'.text)) v2 rfl
  have v4 := heap_put (i := 3) (u := .slice k' n' c') v3 rfl
  have v5 := heap_put (i := 4) (u := .int .i64 h'.pl) v4 rfl
  have ne : g3 ≠ b := by omega
  have gB : B ≤ g3 := by omega
  have hp := ((((H.p.other ne gB v0 (by decide) 0 (.int .i64 h'.kind)).other ne gB v1 (by decide) 1 (.int .i64 h'.num)).other ne gB v2 (by decide) 2 (.string (bs h'.text))).other ne gB v3 (by decide) 3 (.slice k' n' c')).other ne gB v4 (by decide) 4 (.int .i64 h'.pl)
  have hkr := ((((H.kr.setNew (g := g3) (by omega) 0 (.int .i64 h'.kind)).setNew (g := g3) (by omega) 1 (.int .i64 h'.num)).setNew (g := g3) (by omega) 2 (.string (bs h'.text))).setNew (g := g3) (by omega) 3 (.slice k' n' c')).setNew (g := g3) (by omega) 4 (.int .i64 h'.pl)
  rw [← hW] at hp hkr v5
  exact ⟨⟨hp, hkr, hnb, hnB, hn3, by rw [hoth _ (by omega)]; exact H.res, v5⟩, hoth⟩
theorem TR.zeros (H : TR B b ta tn tc T w g3 l bad m h ka kn kc W) : W.cell? ⟨w.heap.size, 0, none⟩ = some (.int .i64 0) ∧ W.cell? ⟨w.heap.size, 1, none⟩ = some (.int .i64 0) ∧ W.cell? ⟨w.heap.size, 2, none⟩ = some (.string ⟨#[]⟩) ∧ W.cell? ⟨w.heap.size, 3, none⟩ = some (.slice none 0 0) ∧ W.cell? ⟨w.heap.size, 4, none⟩ = some (.int .i64 0) ∧ ∀ i, W.frozen? ⟨w.heap.size, i, none⟩ = false :=
  ⟨blk H.res rfl, blk H.res rfl, blk H.res rfl, blk H.res rfl, blk H.res rfl, fun i => blkf i H.res⟩
/-- The result's variable takes what was read. -/
theorem TR.done (H : TR B b ta tn tc T w g3 l bad m h ka kn kc W) {W' : World} (hW : W' = ((((W.setCell ⟨w.heap.size, 0, none⟩ (.int .i64 h.kind)).setCell ⟨w.heap.size, 1, none⟩ (.int .i64 h.num)).setCell ⟨w.heap.size, 2, none⟩ (.string (bs h.text))).setCell ⟨w.heap.size, 3, none⟩ (.slice ka kn kc)).setCell ⟨w.heap.size, 4, none⟩ (.int .i64 h.pl)) :
    Kr B b w W' ∧ RIs B b ta tn tc T l bad m W' ∧ ∀ g, g ≠ w.heap.size → W'.heap[g]? = W.heap[g]? := by
  have hnb := H.nb
  have hnB := H.nB
  have hoth : ∀ g, g ≠ w.heap.size → W'.heap[g]? = W.heap[g]? := fun g hg => by
    rw [hW]; exact heap_other (heap_other (heap_other (heap_other (heap_other rfl hg) hg) hg) hg) hg
  have v0 := H.res
  have v1 := heap_put (i := 0) (u := .int .i64 h.kind) v0 rfl
  have v2 := heap_put (i := 1) (u := .int .i64 h.num) v1 rfl
  have v3 := heap_put (i := 2) (u := .string (bs h.text)) v2 rfl
  have v4 := heap_put (i := 3) (u := .slice ka kn kc) v3 rfl
  have ne : w.heap.size ≠ b := by omega
  have gB : B ≤ w.heap.size := by omega
  have hp := ((((H.p.other ne gB v0 (by decide) 0 (.int .i64 h.kind)).other ne gB v1 (by decide) 1 (.int .i64 h.num)).other ne gB v2 (by decide) 2 (.string (bs h.text))).other ne gB v3 (by decide) 3 (.slice ka kn kc)).other ne gB v4 (by decide) 4 (.int .i64 h.pl)
  have hkr := ((((H.kr.setNew (Nat.le_refl _) 0 (.int .i64 h.kind)).setNew (Nat.le_refl _) 1 (.int .i64 h.num)).setNew (Nat.le_refl _) 2 (.string (bs h.text))).setNew (Nat.le_refl _) 3 (.slice ka kn kc)).setNew (Nat.le_refl _) 4 (.int .i64 h.pl)
  rw [← hW] at hp hkr
  exact ⟨hkr, hp, hoth⟩
end
/-- What is left of a rule says what the whole says. -/
def EqR {α : Type} (X Y : Rs α) (m m' : List Int) : Prop := X.val = Y.val ∧ X.rest = Y.rest ∧ m ++ X.many = m' ++ Y.many
end Go.Proofs.Ytnnmhmlebffacaa
