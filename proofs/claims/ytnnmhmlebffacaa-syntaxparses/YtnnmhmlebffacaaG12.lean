/-
  The document's reader in memory; next, is, takes, wants. Depth.
-/
import Derived.Test.YtnnmhmlebffacaaG03
import Derived.Test.YtnnmhmlebffacaaG11
namespace Go.Proofs.Ytnnmhmlebffacaa
open Go.RowKit Go.Deep

/-- As it was, but for one block, and for rows of numbers from a block on. -/
structure Kr (B b : Nat) (w w' : World) : Prop where
  os : w'.os = w.os
  tape : w'.tape = w.tape
  output : w'.output = w.output
  size : w.heap.size ≤ w'.heap.size
  block : ∀ g, g < w.heap.size → g ≠ b → (B ≤ g → ∀ cs f, w.heap[g]? ≠ some (.cells cs 3 f)) → w'.heap[g]? = w.heap[g]?
section
variable {B b : Nat} {w w1 w2 : World}
theorem Kr.refl (B b : Nat) (w : World) : Kr B b w w := ⟨rfl, rfl, rfl, Nat.le_refl _, fun _ _ _ _ => rfl⟩
theorem Kr.trans (h : Kr B b w w1) (k : Kr B b w1 w2) : Kr B b w w2 :=
  ⟨k.os.trans h.os, k.tape.trans h.tape, k.output.trans h.output, Nat.le_trans h.size k.size, fun g hg hb ht => (k.block g (Nat.lt_of_lt_of_le hg h.size) hb (fun hB cs f => by rw [h.block g hg hb ht]; exact ht hB cs f)).trans (h.block g hg hb ht)⟩
theorem Kr.of_below (h : Below w.heap.size w w1) : Kr B b w w1 := ⟨h.os, h.tape, h.output, h.size, fun g hg _ _ => h.block g hg⟩
theorem Kr.then_below (h : Kr B b w w1) (k : Below w1.heap.size w1 w2) : Kr B b w w2 := h.trans (Kr.of_below k)
theorem Kr.below (h : Kr B b w w1) {C : Nat} (hC : C ≤ B) (hb : C ≤ b) (hs : C ≤ w.heap.size) : Below C w w1 := ⟨h.os, h.tape, h.output, h.size, fun g hg => h.block g (by omega) (by omega) (fun hB => by omega)⟩
theorem Kr.setCell (h : Kr B b w w1) (i : Nat) (u : Value) : Kr B b w (w1.setCell ⟨b, i, none⟩ u) :=
  h.trans ⟨rfl, rfl, rfl, by simp [World.setCell], fun g _ hb _ => Below.heap_setCell w1 _ u g hb⟩
theorem Kr.setNew {g : Nat} (h : Kr B b w w1) (hg : w.heap.size ≤ g) (i : Nat) (u : Value) : Kr B b w (w1.setCell ⟨g, i, none⟩ u) :=
  ⟨h.os, h.tape, h.output, by simpa [World.setCell] using h.size, fun k hk hb ht => by rw [Below.heap_setCell w1 _ u k (by show k ≠ g; omega)]; exact h.block k hk hb ht⟩
/-- A block that is no row of numbers stays. -/
theorem Kr.keep (h : Kr B b w w1) {g : Nat} {cs : Array Value} {ty : TypeId} {f : Nat × Nat} (hg : w.heap[g]? = some (.cells cs ty f)) (hne : g ≠ b) (ht : ty ≠ 3) : w1.heap[g]? = some (.cells cs ty f) := by
  rw [h.block g (lt_block hg) hne (fun _ cs' f' e => by rw [hg] at e; cases e; exact ht rfl)]; exact hg
end
theorem foAt_typed {S : Nat → Prop} {w : World} : ∀ {F : Fo} {ao : Option Addr} {n : Nat}, FoAt true S w F ao n → FoAt true (fun g => S g ∧ ∃ cs, w.heap[g]? = some (.cells cs 35 (0, 0))) w F ao n
  | .nil, _, _, h => h
  | .node _ _ h k r, ao, n, hh => by
    obtain ⟨g, off, ka, kn, kc, m, hn, ha, hB, ho, hok, hkn, hc, hk1, hr⟩ := hh
    exact ⟨g, off, ka, kn, kc, m, hn, ha, ⟨hB, (ho rfl).2⟩, ho, hok, hkn, hc, foAt_typed hk1, foAt_typed hr⟩
theorem FoAt.kr {B b : Nat} {S : Nat → Prop} {w w' : World} {F : Fo} {ao : Option Addr} {n : Nat} (h : FoAt true S w F ao n) (hk : Kr B b w w') {cs : Array Value} (hb : w.heap[b]? = some (.cells cs 58 (0, 0))) : FoAt true S w' F ao n := by
  refine (foAt_keep (w' := w') (fun g hg hs => ?_) (foAt_typed h)).base fun g _ hs => hs.1
  obtain ⟨_, c2, e⟩ := hs
  rw [hk.keep e (fun e2 => by rw [e2, hb] at e; cases e) (by decide), e]
/-- The document's reader: its tokens, where it stands, whether something was wrong, the places of what is too many. -/
structure RAt (B b : Nat) (ta : Option Addr) (tn tc : Nat) (T l : List Tk) (bad : Bool) (m : List Int) (w : World) : Prop where
  block : ∃ k mv mn, T.drop k = l ∧ k < T.length ∧ w.heap[b]? = some (.cells #[.slice ta tn tc, .int .i64 (k : Int), .bool bad, mv] 58 (0, 0)) ∧ w.ownsRow B 3 1 mv mn (m.map fun z => .int .i64 z)
  toks : TksAt w ta tn T
  low : ∀ x, ta = some x → x.block < B
  nb : B ≤ b
  last : ∃ T' e, T = T' ++ [e] ∧ e.kind = 1
  few : T.length ≤ 4001
  cnt : bad = false → m.length + l.length ≤ 4200
section
variable {B b : Nat} {ta : Option Addr} {tn tc : Nat} {T l : List Tk} {bad : Bool} {m : List Int} {w w' : World}
theorem RAt.lt (h : RAt B b ta tn tc T l bad m w) : b < w.heap.size := by
  obtain ⟨k, _, _, _, _, hb, _⟩ := h.block
  exact lt_block hb
theorem RAt.below (h : RAt B b ta tn tc T l bad m w) (hb : Below w.heap.size w w') : RAt B b ta tn tc T l bad m w' := by
  obtain ⟨k, mv, mn, h1, h2, h3, h4⟩ := h.block
  exact ⟨⟨k, mv, mn, h1, h2, by rw [hb.block b h.lt]; exact h3, owned_of_block h4 fun g _ _ hc => hb.block g (lt_block hc)⟩, h.toks.below hb, h.low, h.nb, h.last, h.few, h.cnt⟩
theorem RAt.here1 (h : RAt B b ta tn tc T l bad m w) : ∃ t r, l = t :: r := by
  obtain ⟨k, _, _, h1, h2, _⟩ := h.block
  cases l with
  | nil => have := congrArg List.length h1; simp at this; omega
  | cons t r => exact ⟨t, r, rfl⟩
theorem RAt.len (h : RAt B b ta tn tc T l bad m w) : l.length ≤ 4001 := by
  obtain ⟨k, _, _, h1, h2, _⟩ := h.block
  have := congrArg List.length h1
  simp at this
  have := h.few
  omega
theorem RAt.mem (h : RAt B b ta tn tc T l bad m w) : ∀ t ∈ l, t ∈ T := by
  obtain ⟨k, _, _, h1, _⟩ := h.block
  intro t ht
  rw [← h1] at ht
  exact List.mem_of_mem_drop ht
/-- Behind a token that is not the end there is another. -/
theorem RAt.more {t : Tk} {r : List Tk} (h : RAt B b ta tn tc T (t :: r) bad m w) (ht : t.kind ≠ 1) {k : Nat} (hk : T.drop k = t :: r) : T.drop (k + 1) = r ∧ k + 1 < T.length := by
  have h1 : T.drop (k + 1) = r := by rw [← List.drop_drop, hk]; rfl
  refine ⟨h1, ?_⟩
  obtain ⟨T', e, hT, he⟩ := h.last
  have hlen := congrArg List.length hk
  simp at hlen
  cases r with
  | nil =>
    exfalso
    simp at hlen
    have hT2 := congrArg List.length hT
    simp at hT2
    rw [hT, show k = T'.length by omega, List.drop_left] at hk
    have : e = t := by simpa using hk
    rw [this] at he; exact ht he
  | cons q s => simp at hlen; omega
theorem RAt.cells {t : Tk} {r : List Tk} (h : RAt B b ta tn tc T (t :: r) bad m w) :
    ∃ k mv tb to, T.drop k = t :: r ∧ k < tn ∧ tn ≤ 4001 ∧ k < T.length ∧ ta = some ⟨tb, to, none⟩ ∧ tb < b ∧ w.heap[b]? = some (.cells #[.slice ta tn tc, .int .i64 (k : Int), .bool bad, mv] 58 (0, 0)) ∧
      w.cell? ⟨tb, to + k * 4, none⟩ = some (.int .i64 t.kind) ∧ w.cell? ⟨tb, to + k * 4 + 1, none⟩ = some (.int .i64 t.num) ∧ w.cell? ⟨tb, to + k * 4 + 2, none⟩ = some (.string (bs t.text)) ∧ w.cell? ⟨tb, to + k * 4 + 3, none⟩ = some (.int .i64 (t.pl : Int)) := by
  obtain ⟨k, mv, mn, h1, h2, h3, _⟩ := h.block
  have hl := h.toks.length
  obtain ⟨tb, to, rfl, hc⟩ := h.toks.cells (by omega)
  have hk : T[k]? = some t := by
    have := congrArg (·[0]?) h1
    simpa using this
  obtain ⟨c1, c2, c3, c4⟩ := hc k t hk
  have hf := h.few
  have h9 := h.low _ rfl
  have h8 := h.nb
  exact ⟨k, mv, tb, to, h1, by omega, by omega, h2, rfl, by show tb < b; have h7 : tb < B := h9; omega, h3, c1, c2, c3, c4⟩
/-- A cell of the reader's block is set: where it stands, or that something is wrong. -/
theorem RAt.step {t : Tk} {r : List Tk} (h : RAt B b ta tn tc T (t :: r) bad m w) (ht : t.kind ≠ 1) {k : Nat} (hk : T.drop k = t :: r) {mv : Value} (hb : w.heap[b]? = some (.cells #[.slice ta tn tc, .int .i64 (k : Int), .bool bad, mv] 58 (0, 0))) : RAt B b ta tn tc T r bad m (w.setCell ⟨b, 1, none⟩ (.int .i64 ((k : Int) + 1))) ∧ Kr B b w (w.setCell ⟨b, 1, none⟩ (.int .i64 ((k : Int) + 1))) := by
  obtain ⟨k', mv', mn, h1, h2, h3, h4⟩ := h.block
  rw [hb] at h3
  cases h3
  obtain ⟨q1, q2⟩ := h.more ht hk
  have hoth : ∀ g, g ≠ b → (w.setCell ⟨b, 1, none⟩ (.int .i64 ((k : Int) + 1))).heap[g]? = w.heap[g]? := fun g hg => heap_other rfl hg
  refine ⟨⟨⟨k + 1, mv, mn, q1, q2, by rw [show (((k + 1 : Nat)) : Int) = (k : Int) + 1 by omega]; exact heap_put hb rfl, owned_of_block h4 fun g _ _ hc => hoth g (fun e => by rw [e, hb] at hc; cases hc)⟩, h.toks.keep fun x hx => hoth x.block (by have := h.low x hx; have := h.nb; omega), h.low, h.nb, h.last, h.few, fun e => by have := h.cnt e; simp at this; omega⟩, (Kr.refl B b w).setCell 1 _⟩
theorem RAt.bad' (h : RAt B b ta tn tc T l bad m w) : RAt B b ta tn tc T l true m (w.setCell ⟨b, 2, none⟩ (.bool true)) ∧ Kr B b w (w.setCell ⟨b, 2, none⟩ (.bool true)) := by
  obtain ⟨k, mv, mn, h1, h2, h3, h4⟩ := h.block
  have hoth : ∀ g, g ≠ b → (w.setCell ⟨b, 2, none⟩ (.bool true)).heap[g]? = w.heap[g]? := fun g hg => heap_other rfl hg
  exact ⟨⟨⟨k, mv, mn, h1, h2, heap_put h3 rfl, owned_of_block h4 fun g _ _ hc => hoth g (fun e => by rw [e, h3] at hc; cases hc)⟩, h.toks.keep fun x hx => hoth x.block (by have := h.low x hx; have := h.nb; omega), h.low, h.nb, h.last, h.few, fun e => by cases e⟩, (Kr.refl B b w).setCell 2 _⟩
end
set_option maxHeartbeats 1000000 in
theorem nextR_calls {B b : Nat} {ta : Option Addr} {tn tc : Nat} {T : List Tk} {bad : Bool} {m : List Int} (w : World) {t : Tk} {r : List Tk} (h : RAt B b ta tn tc T (t :: r) bad m w) :
    Calls Try.prog 26 #[.pointer (some ⟨b, 0, none⟩)] w fun e w' => e = .returned (.agg #[.int .i64 t.kind, .int .i64 t.num, .string (bs t.text), .int .i64 (t.pl : Int)]) ∧ Below w.heap.size w w' := by
  have hres : Try.f26.results = #[.cell 2 48] := by kernel_rfl
  obtain ⟨k, mv, tb, to, _, hkn, hn, _, rfl, hlow, hb, c1, c2, c3, c4⟩ := h.cells
  have hlt := h.lt
  have HK : Hid (Below w.heap.size w (w.alloc (.cells #[.int .i64 0, .int .i64 0, .string ⟨#[]⟩, .int .i64 0] 48))) := (Below.refl _ _).alloc (Nat.le_refl _) _
  have ho := heap_alloc_new w (.cells #[.int .i64 0, .int .i64 0, .string ⟨#[]⟩, .int .i64 0] 48)
  have b0 := blk (i := 0) hb rfl
  have b1 := blk (i := 1) hb rfl
  rw [← HK.out.cell (p := ⟨b, 0, none⟩) hlt] at b0
  rw [← HK.out.cell (p := ⟨b, 1, none⟩) hlt] at b1
  rw [← HK.out.cell (World.block_lt_of_cell? w _ c1)] at c1
  rw [← HK.out.cell (World.block_lt_of_cell? w _ c2)] at c2
  rw [← HK.out.cell (World.block_lt_of_cell? w _ c3)] at c3
  rw [← HK.out.cell (World.block_lt_of_cell? w _ c4)] at c4
  generalize t.kind = x1 at *
  generalize t.num = x2 at *
  generalize bs t.text = x3 at *
  generalize t.pl = x4 at *
  clear h hb
  go_enter Try.func26, Try.ntmps26
  go_wp2_with fail
  generalize w.alloc (.cells #[.int .i64 0, .int .i64 0, .string ⟨#[]⟩, .int .i64 0] 48) = w1 at *
  have f0 := blkf 0 ho
  have f1 := blkf 1 ho
  have f2 := blkf 2 ho
  have f3 := blkf 3 ho
  have d0 := blk (i := 0) ho rfl
  have d1 := blk (i := 1) ho rfl
  have d2 := blk (i := 2) ho rfl
  have d3 := blk (i := 3) ho rfl
  have hne : ¬ b = w.heap.size := by omega
  clear ho
  go_region
  go_wp2
  refine bodyPost_ret (v := .agg #[.int .i64 x1, .int .i64 x2, .string x3, .int .i64 (x4 : Int)]) ?_ rfl ⟨rfl, ?_⟩
  · simp only [results, hres]
    go_simp
  · exact ((((HK.out.drew).setCell (p := ⟨w.heap.size, 0, none⟩) (Nat.le_refl _) _).setCell (p := ⟨w.heap.size, 1, none⟩) (Nat.le_refl _) _).setCell (p := ⟨w.heap.size, 2, none⟩) (Nat.le_refl _) _).setCell (p := ⟨w.heap.size, 3, none⟩) (Nat.le_refl _) _
end Go.Proofs.Ytnnmhmlebffacaa
namespace Go.Proofs.Ytnnmhmlebffacaa
open Go.RowKit Go.Deep

/-- The depth of the deepest of a list, in the machine's numbers. -/
def depW : Fo → Int
  | .nil => 0
  | .node _ _ _ k r => max (wrap64 (depW k + 1)) (depW r)
theorem wrap_small {x : Int} (h1 : -9223372036854775808 ≤ x) (h2 : x ≤ 9223372036854775807) : wrap64 x = x := by
  unfold wrap64; omega
theorem depW_eq : ∀ (F : Fo), depF F ≤ 1000000 → depW F = (depF F : Int)
  | .nil, _ => rfl
  | .node _ _ _ k r, h => by
    simp only [depF] at h
    have h1 := depW_eq k (by omega)
    have h2 := depW_eq r (by omega)
    simp only [depW, depF]
    rw [h1, h2, wrap_small (by omega) (by omega)]
    omega
theorem depW_pos : ∀ (F : Fo), 0 ≤ depW F
  | .nil => Int.le_refl _
  | .node _ _ _ k r => by
    have := depW_pos r
    simp only [depW]
    omega
theorem foAt_addr {o : Bool} {S : Nat → Prop} {w : World} {F : Fo} {ka : Option Addr} {kn : Nat} (h : FoAt o S w F ka kn) : ∃ g off, (0 < kn → ka = some ⟨g, off, none⟩) ∧ FoAt o S w F (some ⟨g, off + 0 * 5, none⟩) (kn - 0) := by
  cases F with
  | nil =>
    have h0 : kn = 0 := h
    exact ⟨0, 0, fun h1 => by omega, h0⟩
  | node _ _ hd k r =>
    have hh := h
    obtain ⟨g, off, _, _, _, _, _, ha, _⟩ := hh
    exact ⟨g, off, fun _ => ha, by rw [Nat.zero_mul, Nat.add_zero, ← ha]; exact h⟩
/-- The first of a list in memory, and the others. -/
theorem foAt_head {o : Bool} {S : Nat → Prop} {w : World} {G : Fo} {g off i kn : Nat} (h : FoAt o S w G (some ⟨g, off + i * 5, none⟩) (kn - i)) (hi : i < kn) :
    ∃ b0 o0 hd k r ka kc kk, G = .node b0 o0 hd k r ∧ S g ∧ HdOk hd ∧ kc ≤ maxLen ∧ (w.cell? ⟨g, off + i * 5, none⟩ = some (.int .i64 hd.kind) ∧ w.cell? ⟨g, off + i * 5 + 1, none⟩ = some (.int .i64 hd.num) ∧ w.cell? ⟨g, off + i * 5 + 2, none⟩ = some (.string (bs hd.text)) ∧ w.cell? ⟨g, off + i * 5 + 3, none⟩ = some (.slice ka kc kk) ∧ w.cell? ⟨g, off + i * 5 + 4, none⟩ = some (.int .i64 hd.pl)) ∧
      FoAt o S w k ka kc ∧ FoAt o S w r (some ⟨g, off + (i + 1) * 5, none⟩) (kn - (i + 1)) := by
  cases G with
  | nil => have : kn - i = 0 := h; omega
  | node b0 o0 hd k r =>
    obtain ⟨g', off', ka, kc, kk, m, hn, ha, hS, _, hok, hkc, hc, hk, hr⟩ := h
    cases ha
    refine ⟨b0, o0, hd, k, r, ka, kc, kk, rfl, hS, hok, hkc, ⟨hc 0 _ rfl, hc 1 _ rfl, hc 2 _ rfl, hc 3 _ rfl, hc 4 _ rfl⟩, hk, ?_⟩
    rw [show off + (i + 1) * 5 = off + i * 5 + 5 by omega, show kn - (i + 1) = m by omega]
    exact hr
set_option maxRecDepth 20000 in
set_option maxHeartbeats 2000000 in
theorem depth_calls : ∀ (N : Nat) (e : Ex) (ka : Option Addr) (kn kc : Nat) (w : World) (o : Bool) (S : Nat → Prop), ExAt o S w e ka kn → szF e.2 < N →
    Calls Try.prog 17 #[.agg #[.int .i64 e.1.kind, .int .i64 e.1.num, .string (bs e.1.text), .slice ka kn kc, .int .i64 e.1.pl]] w fun e' w' => e' = .returned (.int .i64 (wrap64 (depW e.2 + 1))) ∧ Below w.heap.size w w'
  | 0, _, _, _, _, _, _, _, _, h => by omega
  | N + 1, e, ka, kn, kc, w, o, S, hE, hN => by
    have IH : Hid (∀ (e : Ex) (ka : Option Addr) (kn kc : Nat) (w : World), ExAt o S w e ka kn → szF e.2 < N →
      Calls Try.prog 17 #[.agg #[.int .i64 e.1.kind, .int .i64 e.1.num, .string (bs e.1.text), .slice ka kn kc, .int .i64 e.1.pl]] w fun e' w' => e' = .returned (.int .i64 (wrap64 (depW e.2 + 1))) ∧ Below w.heap.size w w') := fun e ka kn kc w h1 h2 => depth_calls N e ka kn kc w o S h1 h2
    obtain ⟨g, off, hka, hF⟩ := foAt_addr hE.kids
    have hkm := hE.few
    unfold maxLen at hkm
    have HF : Hid (FoAt o S w e.2 (some ⟨g, off + 0 * 5, none⟩) (kn - 0) ∧ szF e.2 ≤ N) := ⟨hF, by omega⟩
    generalize hD : depW e.2 = D at *
    have HD : Hid (depW e.2 = D) := hD
    generalize e.2 = F at *
    generalize e.1 = hd at *
    clear hF hE hN hD
    have hbx : Below w.heap.size w (w.alloc (.cells #[.int .i64 hd.kind, .int .i64 hd.num, .string (bs hd.text), .slice ka kn kc, .int .i64 hd.pl] 35)) := (Below.refl _ _).alloc (Nat.le_refl _) _
    have HB : Hid (Below w.heap.size w (w.alloc (.cells #[.int .i64 hd.kind, .int .i64 hd.num, .string (bs hd.text), .slice ka kn kc, .int .i64 hd.pl] 35))) := hbx
    have HF2 : Hid (FoAt o S (w.alloc (.cells #[.int .i64 hd.kind, .int .i64 hd.num, .string (bs hd.text), .slice ka kn kc, .int .i64 hd.pl] 35)) F (some ⟨g, off + 0 * 5, none⟩) (kn - 0) ∧ szF F ≤ N) := ⟨HF.out.1.below hbx, HF.out.2⟩
    clear hbx HF
    go_enter Try.func17, Try.ntmps17
    go_wp2_with fail
    go_loopg [3, 9] kn (fun k dv iv wr => ∃ (G : Fo) (i : Nat) (d : Int), 0 ≤ d ∧ dv = .int .i64 d ∧ iv = .int .i64 (i : Int) ∧ i + k = kn ∧ Hid (FoAt o S wr G (some ⟨g, off + i * 5, none⟩) (kn - i) ∧ szF G ≤ N ∧ max d (depW G) = D ∧ Below w.heap.size w wr))
    case atStart => exact ⟨F, 0, 0, Int.le_refl _, rfl, rfl, by omega, HF2.out.1, HF2.out.2, by rw [← HD.out]; have := depW_pos F; omega, HB.out⟩
    case round =>
      clear HF2 HB HD
      obtain ⟨G, i, d, hd0, rfl, rfl, hik, HT⟩ := hrel
      by_cases hi : i < kn
      · obtain ⟨b0, o0, h2, k2, r2, ka2, kc2, kk2, rfl, -, hok, hkc, ⟨c0, c1, c2, c3, c4⟩, hk2, hr2⟩ := foAt_head HT.out.1 hi
        have hka2 := hka (by omega)
        subst hka2
        have HE2 : Hid (∀ o', ExAt o S (wr.alloc o') (h2, k2) ka2 kc2) := fun o' => ⟨hok, hkc, hk2.below ((Below.refl _ _).alloc (Nat.le_refl _) _)⟩
        have HR : Hid (FoAt o S wr r2 (some ⟨g, off + (i + 1) * 5, none⟩) (kn - (i + 1)) ∧ szF k2 < N ∧ szF r2 ≤ N ∧ max d (max (wrap64 (depW k2 + 1)) (depW r2)) = D ∧ Below w.heap.size w wr) := by
          obtain ⟨_, h3, h4, h5⟩ := HT.out
          simp only [szF] at h3
          exact ⟨hr2, by omega, by omega, h4, h5⟩
        clear HT hk2 hr2 hok hkc
        go_wp2_with fail
        refine (IH.out (h2, k2) ka2 kc2 kk2 _ (HE2.out _) HR.out.2.1).mono ?_
        rintro e' w3 ⟨rfl, hb3⟩
        have HR3 : Hid (FoAt o S w3 r2 (some ⟨g, off + (i + 1) * 5, none⟩) (kn - (i + 1)) ∧ szF r2 ≤ N ∧ max (max d (wrap64 (depW k2 + 1))) (depW r2) = D ∧ Below w.heap.size w w3) := by
          have hb4 := below_box' hb3
          refine ⟨HR.out.1.below hb4, HR.out.2.2.1, ?_, HR.out.2.2.2.2.trans (hb4.mono HR.out.2.2.2.2.size)⟩
          have := HR.out.2.2.2.1
          omega
        clear hb3 HR HE2
        generalize wrap64 (depW k2 + 1) = dk at *
        go_wp2_with fail
        · go_roundg (gk - 1)
          case measure => omega
          case rel =>
            have h9 := HR3.out
            rw [show max d dk = dk by omega] at h9
            exact ⟨r2, i + 1, dk, by omega, rfl, by go_num, by omega, h9⟩
        · go_roundg (gk - 1)
          case measure => omega
          case rel =>
            have h9 := HR3.out
            rw [show max d dk = d by omega] at h9
            exact ⟨r2, i + 1, d, hd0, rfl, by go_num, by omega, h9⟩
      · have HX : Hid (d = D ∧ Below w.heap.size w wr) := by
          obtain ⟨h1, _, h3, h4⟩ := HT.out
          have : kn - i = 0 := by omega
          rw [this] at h1
          cases G with
          | nil => simp only [depW] at h3; exact ⟨by omega, h4⟩
          | node b0 o0 h2 k r => obtain ⟨_, _, _, _, _, m, hm, _⟩ := h1; omega
        clear HT
        go_wp2
        go_ret
        refine ⟨ret_int ?_, HX.out.2⟩
        rw [HX.out.1]
end Go.Proofs.Ytnnmhmlebffacaa
