/-
  An index in memory: its box, its map, the rows of places that the map leads to.
-/
import Derived.Test.YtnidinppglkcpaaKmP
import Derived.Test.YtnidinppglkcpaaApp
import Derived.Test.YtnidinppglkcpaaDrw
import Derived.Maps.OwnSet
import Derived.Maps.RangeWalk
import Derived.StringKeys
namespace Go.Proofs.Ytnidinppglkcpaa
open Go.RowKit Go.Maps

def plCells (p : Pl) : List Value := [.int .i64 p.1, .int .i64 p.2]
theorem pl_len (p : Pl) : (plCells p).length = 2 := rfl
def plVals (l : List Pl) : List Value := l.flatMap plCells
theorem plVals_length (l : List Pl) : (plVals l).length = l.length * 2 := by
  induction l with
  | nil => rfl
  | cons q r ih => simp only [plVals, List.flatMap_cons, List.length_append, List.length_cons] at ih ⊢; rw [ih, pl_len]; omega
theorem plVals_snoc (l : List Pl) (p : Pl) : plVals (l ++ [p]) = plVals l ++ plCells p := by simp [plVals]
theorem plVals_append (l m : List Pl) : plVals (l ++ m) = plVals l ++ plVals m := by simp [plVals]
theorem pl_one (l : List Pl) : ∀ u ∈ plVals l, u.oneCell' = true := by
  intro v h
  simp only [plVals, List.mem_flatMap, plCells] at h
  obtain ⟨q, _, h⟩ := h
  simp at h
  rcases h with rfl | rfl <;> rfl
theorem plc_one (p : Pl) : ∀ u ∈ plCells p, u.oneCell' = true := by
  intro v h
  simp [plCells] at h
  rcases h with rfl | rfl <;> rfl
/-- Places in memory. -/
structure PlsAt (w : World) (ao : Option Addr) (len : Nat) (l : List Pl) : Prop where
  length : l.length = len
  short : len ≤ maxLen
  cells : 0 < len → ∃ b off, ao = some ⟨b, off, none⟩ ∧ ∀ (i : Nat) (q : Pl), l[i]? = some q → w.cell? ⟨b, off + i * 2, none⟩ = some (.int .i64 q.1) ∧ w.cell? ⟨b, off + i * 2 + 1, none⟩ = some (.int .i64 q.2)
theorem PlsAt.below {w w' : World} {ao : Option Addr} {len : Nat} {l : List Pl} (h : PlsAt w ao len l) (hb : Below w.heap.size w w') : PlsAt w' ao len l := by
  refine ⟨h.length, h.short, fun h0 => ?_⟩
  obtain ⟨b, off, e, hc⟩ := h.cells h0
  refine ⟨b, off, e, fun i q hi => ?_⟩
  obtain ⟨h1, h2⟩ := hc i q hi
  refine ⟨?_, ?_⟩
  · rw [hb.cell (World.block_lt_of_cell? w _ h1)]; exact h1
  · rw [hb.cell (World.block_lt_of_cell? w _ h2)]; exact h2
theorem PlsAt.nil (w : World) (ao : Option Addr) : PlsAt w ao 0 [] := ⟨rfl, Nat.zero_le _, fun h => absurd h (by decide)⟩
theorem pls_owned {w : World} {base : Nat} {ao : Option Addr} {n cap : Nat} {e : TypeId} {l : List Pl} (h : w.ownsRow base e 2 (.slice ao n cap) n (plVals l)) : PlsAt w ao n l := by
  have hl : l.length = n := by have := h.1; rw [plVals_length] at this; omega
  rcases h.2 with ⟨hv, rfl⟩ | ⟨g, cap', cur, hv, hb, hg, h1, h2, h3, h4⟩
  · exact ⟨hl, Nat.zero_le _, fun h0 => absurd h0 (by omega)⟩
  · cases hv
    refine ⟨hl, by omega, fun _ => ⟨g, 0, rfl, fun i q hi => ?_⟩⟩
    simp only [Nat.zero_add]
    exact ⟨(owned_cells h _ _ (flat_get pl_len l i q 0 _ hi rfl)).1, (owned_cells h _ _ (flat_get pl_len l i q 1 _ hi rfl)).1⟩
/-- Texts in memory. -/
structure WdsAt (w : World) (ao : Option Addr) (len : Nat) (l : List Wd) : Prop where
  length : l.length = len
  short : len ≤ maxLen
  cells : 0 < len → ∃ b off, ao = some ⟨b, off, none⟩ ∧ ∀ i, i < len → w.cell? ⟨b, off + i, none⟩ = some (.string (bs (l.getD i [])))
theorem WdsAt.below {w w' : World} {ao : Option Addr} {len : Nat} {l : List Wd} (h : WdsAt w ao len l) (hb : Below w.heap.size w w') : WdsAt w' ao len l := by
  refine ⟨h.length, h.short, fun h0 => ?_⟩
  obtain ⟨b, off, e, hc⟩ := h.cells h0
  refine ⟨b, off, e, fun i hi => ?_⟩
  have hci := hc i hi
  rw [hb.cell (p := ⟨b, off + i, none⟩) (World.block_lt_of_cell? w _ hci)]
  exact hci
theorem WdsAt.nil (w : World) (ao : Option Addr) : WdsAt w ao 0 [] := ⟨rfl, Nat.zero_le _, fun h => absurd h (by decide)⟩
def wdVals (l : List Wd) : List Value := l.map fun s => .string (bs s)
theorem wdVals_length (l : List Wd) : (wdVals l).length = l.length := by simp [wdVals]
theorem wdVals_enc (l : List Wd) : wdVals l = l.map encStr := rfl
theorem wd_one (l : List Wd) : ∀ u ∈ wdVals l, u.oneCell' = true := by
  intro v h
  simp only [wdVals, List.mem_map] at h
  obtain ⟨s, _, rfl⟩ := h
  rfl
theorem wds_new {w : World} {g : Nat} {zs : List Wd} {cs : Array Value} {t : TypeId} {f : Nat × Nat} (h : w.heap[g]? = some (.cells cs t f)) (hc : cs = (wdVals zs).toArray) (hs : zs.length ≤ maxLen) : WdsAt w (some ⟨g, 0, none⟩) zs.length zs := by
  refine ⟨rfl, hs, fun _ => ⟨g, 0, rfl, fun i hi => ?_⟩⟩
  rw [Nat.zero_add]
  refine cell_block h i _ ?_
  subst hc
  simp [wdVals, List.getD, List.getElem?_eq_getElem hi]
theorem wds_owned {w : World} {base : Nat} {ao : Option Addr} {n cap : Nat} {l : List Wd} (h : w.ownsRow base 9 1 (.slice ao n cap) n (wdVals l)) : WdsAt w ao n l := by
  have hl : l.length = n := by have := h.1; rw [wdVals_length] at this; omega
  rcases h.2 with ⟨hv, rfl⟩ | ⟨g, cap', cur, hv, hb, hg, h1, h2, h3, h4⟩
  · exact ⟨hl, Nat.zero_le _, fun h0 => absurd h0 (by omega)⟩
  · cases hv
    refine ⟨hl, by omega, fun _ => ⟨g, 0, rfl, fun i hi => ?_⟩⟩
    rw [Nat.zero_add]
    exact (owned_cells h i _ (by simp [wdVals, List.getD, List.getElem?_eq_getElem (show i < l.length by omega)])).1

/-- How an element of the map reads: as where the slice lies. -/
def slE : Value → Option (DataW Unit × List MemPlace)
  | .slice none 0 0 => some (.nil, [])
  | .slice (some ⟨g, 0, none⟩) n c => some (.agg [.lit (.int .i64 g), .lit (.int .i64 n), .lit (.int .i64 c)], [])
  | _ => none
theorem slE_inj {v v' : Value} {d : DataW Unit} {ps ps' : List MemPlace} (h : slE v = some (d, ps)) (h' : slE v' = some (d, ps')) : v = v' := by
  unfold slE at h h'
  split at h
  · simp at h
    obtain ⟨rfl, _⟩ := h
    split at h'
    · rfl
    · simp at h'
    · cases h'
  · simp at h
    obtain ⟨rfl, _⟩ := h
    split at h'
    · simp at h'
    · simp at h'
      obtain ⟨⟨h1, h2, h3⟩, _⟩ := h'
      have e1 := Int.ofNat.inj h1
      have e2 := Int.ofNat.inj h2
      have e3 := Int.ofNat.inj h3
      subst e1 e2 e3
      rfl
    · cases h'
  · cases h
theorem own_slE {w : World} {base : Nat} {e : TypeId} {size : Nat} {v : Value} {n : Nat} {xs : List Value} (h : w.ownsRow base e size v n xs) : ∃ d ps, slE v = some (d, ps) := by
  rcases h.2 with ⟨rfl, _⟩ | ⟨g, cap, _, rfl, _⟩
  · exact ⟨_, _, rfl⟩
  · exact ⟨_, _, rfl⟩
/-- Blocks of other types, and maps, are not a row's. -/
theorem own_other {w : World} {base : Nat} {e : TypeId} {size : Nat} {v : Value} {n : Nat} {xs : List Value} (h : w.ownsRow base e size v n xs) {g : Nat} {o : Obj} (hg : w.heap[g]? = some o) (hne : ∀ cur, o ≠ .cells cur e (0, 0)) : some g ≠ v.ownBlock := by
  intro e'
  rcases h.2 with ⟨hv, _⟩ | ⟨g', cap', cur', hv, _, hg', _⟩
  · rw [hv] at e'; cases e'
  · rw [hv] at e'; simp [Value.ownBlock] at e'; subst e'; rw [hg'] at hg; cases hg; exact hne _ rfl
theorem own_lt {w : World} {base : Nat} {e : TypeId} {size : Nat} {v : Value} {n : Nat} {xs : List Value} (h : w.ownsRow base e size v n xs) {g : Nat} (hg : v.ownBlock = some g) : g < w.heap.size ∧ base ≤ g := by
  rcases h.2 with ⟨hv, _⟩ | ⟨g', cap', cur', hv, hb, hg', _⟩
  · rw [hv] at hg; cases hg
  · rw [hv] at hg; simp [Value.ownBlock] at hg; subst hg; exact ⟨lt_block hg', hb⟩
/-- The map of an index: f tells each word's slice. -/
structure MpF (w : World) (base mb : Nat) (L : List Oc) (f : Wd → Value) : Prop where
  ex : ∃ (n : Nat) (D : DataW Unit), n ≤ L.length ∧ w.ownsMap Try.prog 9 slE mb n D ∧ (∀ s, Maps.has D (.string s) = !(plsOf L s).isEmpty) ∧ ∀ s, ∃ ps, slE (f s) = some (D.atKey (.string s) .nil, ps)
  rows : ∀ s, w.ownsRow base 46 2 (f s) (plsOf L s).length (plVals (plsOf L s))
  apart : ∀ s t g, s ≠ t → (f s).ownBlock = some g → (f t).ownBlock ≠ some g
theorem key9 : Keyed Try.prog 9 := string_keyed Try.underlying9
theorem zero42 (w : World) : (zeroValue 42).run Try.prog w = .ok (.slice none 0 0) w := by kernel_rfl
theorem MpF.isMap {w : World} {base mb : Nat} {L : List Oc} {f : Wd → Value} (h : MpF w base mb L f) : ∃ es clock, w.heap[mb]? = some (.map es clock) := by
  obtain ⟨n, D, hn, ⟨es, clock, hb, _⟩, hr⟩ := h.ex
  exact ⟨es, clock, hb⟩
theorem MpF.lt {w : World} {base mb : Nat} {L : List Oc} {f : Wd → Value} (h : MpF w base mb L f) : mb < w.heap.size := by
  obtain ⟨es, clock, hb⟩ := h.isMap
  exact lt_block hb
theorem MpF.keep {w w' : World} {base mb : Nat} {L : List Oc} {f : Wd → Value} (h : MpF w base mb L f) (hm : w'.heap[mb]? = w.heap[mb]?) (hr : ∀ g cur, w.heap[g]? = some (.cells cur 46 (0, 0)) → base ≤ g → w'.heap[g]? = w.heap[g]?) : MpF w' base mb L f := by
  obtain ⟨n, D, hn, ⟨es, clock, hb, F, hs, hD⟩, h1, h2⟩ := h.ex
  exact ⟨⟨n, D, hn, ⟨es, clock, hm.trans hb, F, hs, hD⟩, h1, h2⟩, fun s => owned_of_block (h.rows s) fun g cur hg hc => hr g cur hc (own_lt (h.rows s) hg).2, h.apart⟩
theorem MpF.below {w w' : World} {base mb : Nat} {L : List Oc} {f : Wd → Value} (h : MpF w base mb L f) (hb : Below w.heap.size w w') : MpF w' base mb L f :=
  h.keep (hb.block _ h.lt) fun _ _ hg _ => hb.block _ (lt_block hg)
theorem MpF.made (w : World) (base : Nat) : MpF (w.alloc (.map #[] 0)) base w.heap.size [] (fun _ => .slice none 0 0) := by
  refine ⟨⟨0, .map [], Nat.le_refl _, World.ownsMap_made w _ _ _, fun s => rfl, fun s => ⟨[], rfl⟩⟩, fun s => World.ownsRow_nil _ _ _ _, fun s t g _ h => by cases h⟩
theorem mp_key (s : Wd) (hs : s.length ≤ maxLen) : keyOf Try.prog 9 (.string (bs s)) = some (.string s) := by
  have := WideMaps.keyOf_string_mk (P := Try.prog) (k := 9) Try.underlying9 (s := bs s) (by rw [bs_size]; exact hs)
  rw [bs_list] at this; exact this
theorem MpF.look {w : World} {base mb : Nat} {L : List Oc} {f : Wd → Value} (h : MpF w base mb L f) (s : Wd) (hs : s.length ≤ maxLen) {W : World} (hW : W.heap[mb]? = w.heap[mb]?) :
    (Instr.lookup 34 (.map (some mb)) (.string (bs s)) false).run Try.prog W = .ok (f s) W := by
  obtain ⟨n, D, hn, ⟨es, clock, hb, F, hs', hD⟩, h1, h2⟩ := h.ex
  have ho : W.ownsMap Try.prog 9 slE mb n D := ⟨es, clock, hW.trans hb, F, hs', hD⟩
  obtain ⟨v, ps, hrun, hv⟩ := ho.lookup key9 Try.underlying34 (zero42 W) (zd := .nil) (zp := []) rfl (mp_key s hs)
  obtain ⟨ps', h3⟩ := h2 s
  rw [hrun, slE_inj hv h3]
def upF (f : Wd → Value) (s : Wd) (v : Value) : Wd → Value := fun t => if t = s then v else f t
theorem upF_same (f : Wd → Value) (s : Wd) (v : Value) : upF f s v s = v := by simp [upF]
theorem upF_ne (f : Wd → Value) {s t : Wd} (v : Value) (h : t ≠ s) : upF f s v t = f t := by simp [upF, h]
/-- A place more: the row was appended to, the map is told. -/
theorem MpF.put {w wa : World} {base mb : Nat} {L : List Oc} {f : Wd → Value} (h : MpF w base mb L f) (s : Wd) (hs : s.length ≤ maxLen) (hL : L.length < 2147483648) (p : Pl) {v : Value}
    (o1 : wa.ownsRow base 46 2 v ((plsOf L s).length + 1) (plVals (plsOf L s) ++ plCells p)) (o2 : w.grownBy wa (f s).ownBlock) (o3 : ∀ g, v.ownBlock = some g → some g = (f s).ownBlock ∨ w.heap.size ≤ g) :
    ∃ w', (Instr.mapUpdate 34 (.map (some mb)) (.string (bs s)) v).run Try.prog wa = .ok () w' ∧ MpF w' base mb (L ++ [(s, p)]) (upF f s v) ∧ wa.grownBy w' (some mb) := by
  obtain ⟨es0, clock0, hm0⟩ := h.isMap
  have hmb : some mb ≠ (f s).ownBlock := own_other (h.rows s) hm0 (by intro cur e; cases e)
  obtain ⟨n, D, hn, ho, h1, h2⟩ := h.ex
  have hoa : wa.ownsMap Try.prog 9 slE mb n D := ho.kept o2 hmb
  obtain ⟨d, ps, hd⟩ := own_slE o1
  obtain ⟨w', hrun, ho', hg⟩ := hoa.update key9 Try.underlying34 (by unfold maxLen; omega) (mp_key s hs) hd
  have hma : ∃ es clock, wa.heap[mb]? = some (.map es clock) := by
    obtain ⟨es, clock, hb, _⟩ := hoa
    exact ⟨es, clock, hb⟩
  obtain ⟨es1, clock1, hm1⟩ := hma
  have hpl : ∀ t, plsOf (L ++ [(s, p)]) t = if s = t then plsOf L t ++ [p] else plsOf L t := fun t => pls_snoc L (s, p) t
  refine ⟨w', hrun, ⟨⟨n + 1, _, by simp; omega, ho', fun t => ?_, fun t => ?_⟩, fun t => ?_, fun t u g hne hg1 => ?_⟩, hg⟩
  · rw [hpl t]
    by_cases e : s = t
    · subst e
      rw [if_pos rfl, Maps.has_put_same hoa.isMap (show WideAt.IsKeyLit (.string s) from trivial)]; simp
    · have hne : (Lit.string t) ≠ .string s := fun h => e (by cases h; rfl)
      rw [if_neg e, Maps.has_put_other hne, h1 t]
  · by_cases e : s = t
    · subst e
      exact ⟨ps, by rw [upF_same, Maps.atKey_put_same hoa.isMap (show WideAt.IsKeyLit (.string s) from trivial)]; exact hd⟩
    · have hne : (Lit.string t) ≠ .string s := fun h => e (by cases h; rfl)
      rw [upF_ne _ _ (Ne.symm e), Maps.atKey_put_other hne]
      exact h2 t
  · rw [hpl t]
    by_cases e : s = t
    · subst e
      rw [if_pos rfl, upF_same, plVals_snoc, List.length_append]
      exact owned_of_block o1 fun g cur hg1 hc => hg.block g (lt_block hc) (fun e' => by cases e'; rw [hm1] at hc; cases hc)
    · rw [if_neg e, upF_ne _ _ (Ne.symm e)]
      have ha : wa.ownsRow base 46 2 (f t) (plsOf L t).length (plVals (plsOf L t)) := owned_of_block (h.rows t) fun g cur hg1 hc => o2.block g (lt_block hc) (fun e' => h.apart t s g (Ne.symm e) hg1 e'.symm)
      exact owned_of_block ha fun g cur hg1 hc => hg.block g (lt_block hc) (fun e' => by cases e'; rw [hm1] at hc; cases hc)
  · have key : ∀ t, t ≠ s → v.ownBlock = some g → (f t).ownBlock ≠ some g := fun t ht hv hft => by
      rcases o3 g hv with h0 | h0
      · exact h.apart t s g ht hft h0.symm
      · have := (own_lt (h.rows t) hft).1; omega
    by_cases e : t = s
    · subst e
      rw [upF_same] at hg1
      rw [upF_ne _ _ (Ne.symm hne)]
      exact key u (Ne.symm hne) hg1
    · rw [upF_ne _ _ e] at hg1
      by_cases e2 : u = s
      · subst e2
        rw [upF_same]
        exact fun hv => key t e hv hg1
      · rw [upF_ne _ _ e2]; exact h.apart t u g hne hg1
/-- An index. -/
structure IxAt (w : World) (base x mb : Nat) (k : Int) (L : List Oc) (f : Wd → Value) : Prop where
  box : w.heap[x]? = some (.cells #[.map (some mb), .int .i64 L.length, .int .i64 k] 38 (0, 0))
  mp : MpF w base mb L f
theorem IxAt.lt {w : World} {base x mb : Nat} {k : Int} {L : List Oc} {f : Wd → Value} (h : IxAt w base x mb k L f) : x < w.heap.size := lt_block h.box
theorem IxAt.below {w w' : World} {base x mb : Nat} {k : Int} {L : List Oc} {f : Wd → Value} (h : IxAt w base x mb k L f) (hb : Below w.heap.size w w') : IxAt w' base x mb k L f :=
  ⟨by rw [hb.block _ h.lt]; exact h.box, h.mp.below hb⟩
theorem IxAt.alloc {w : World} {base x mb : Nat} {k : Int} {L : List Oc} {f : Wd → Value} (h : IxAt w base x mb k L f) (o : Obj) : IxAt (w.alloc o) base x mb k L f := h.below (below_new o)
theorem IxAt.drew {w : World} {base x mb : Nat} {k : Int} {L : List Oc} {f : Wd → Value} (h : IxAt w base x mb k L f) : IxAt w.drew base x mb k L f := ⟨h.box, h.mp.below (Below.refl _ _).drew⟩
theorem IxAt.c0 {w : World} {base x mb : Nat} {k : Int} {L : List Oc} {f : Wd → Value} (h : IxAt w base x mb k L f) : w.cell? ⟨x, 0, none⟩ = some (.map (some mb)) := cell_block h.box 0 _ rfl
theorem IxAt.c1 {w : World} {base x mb : Nat} {k : Int} {L : List Oc} {f : Wd → Value} (h : IxAt w base x mb k L f) : w.cell? ⟨x, 1, none⟩ = some (.int .i64 L.length) := cell_block h.box 1 _ rfl
theorem IxAt.c2 {w : World} {base x mb : Nat} {k : Int} {L : List Oc} {f : Wd → Value} (h : IxAt w base x mb k L f) : w.cell? ⟨x, 2, none⟩ = some (.int .i64 k) := cell_block h.box 2 _ rfl
/-- A place more, and the number of them. -/
theorem IxAt.put {w wa : World} {base x mb : Nat} {k : Int} {L : List Oc} {f : Wd → Value} (h : IxAt w base x mb k L f) (hx : base ≤ x) (hm : base ≤ mb) (hsz : base ≤ w.heap.size) (s : Wd) (hs : s.length ≤ maxLen) (hL : L.length < 2147483648) (p : Pl) {v : Value}
    (o1 : wa.ownsRow base 46 2 v ((plsOf L s).length + 1) (plVals (plsOf L s) ++ plCells p)) (o2 : w.grownBy wa (f s).ownBlock) (o3 : ∀ g, v.ownBlock = some g → some g = (f s).ownBlock ∨ w.heap.size ≤ g) :
    ∃ w', (Instr.mapUpdate 34 (.map (some mb)) (.string (bs s)) v).run Try.prog wa = .ok () w' ∧ w'.cell? ⟨x, 1, none⟩ = some (.int .i64 L.length) ∧ w'.frozen? ⟨x, 1, none⟩ = false ∧
      IxAt (w'.setCell ⟨x, 1, none⟩ (.int .i64 ((L.length : Int) + 1))) base x mb k (L ++ [(s, p)]) (upF f s v) ∧ Below base w (w'.setCell ⟨x, 1, none⟩ (.int .i64 ((L.length : Int) + 1))) ∧ w.heap.size ≤ w'.heap.size := by
  obtain ⟨w', hrun, hp, hg⟩ := h.mp.put s hs hL p o1 o2 o3
  obtain ⟨es0, clock0, hm0⟩ := h.mp.isMap
  have hne : x ≠ mb := fun e => by have := h.box; rw [e, hm0] at this; cases this
  have hbx : w'.heap[x]? = some (.cells #[.map (some mb), .int .i64 L.length, .int .i64 k] 38 (0, 0)) := by
    rw [hg.block x (Nat.lt_of_lt_of_le h.lt o2.size) (by intro e; cases e; exact hne rfl), o2.block x h.lt (own_other (h.mp.rows s) h.box (by intro cur e; cases e))]
    exact h.box
  have hbel : Below base w w' := ((Below.refl _ w).grown o2 hsz (fun g hg1 => (own_lt (h.mp.rows s) hg1).2)).grown hg (Nat.le_trans hsz o2.size) (fun g e => by cases e; exact hm)
  refine ⟨w', hrun, cell_block hbx 1 _ rfl, frozen_of_row _ _ _ _ _ hbx, ⟨?_, ?_⟩, hbel.setCell (p := ⟨x, 1, none⟩) hx _, Nat.le_trans o2.size hg.size⟩
  · rw [heap_setCell_same w' x _ _ _ _ hbx]
    simp
  · refine hp.keep (Below.heap_setCell _ _ _ _ (Ne.symm hne)) fun g cur hg1 _ => Below.heap_setCell _ _ _ _ (fun e => ?_)
    have e' : g = x := e
    subst e'
    rw [hbx] at hg1; cases hg1
end Go.Proofs.Ytnidinppglkcpaa
