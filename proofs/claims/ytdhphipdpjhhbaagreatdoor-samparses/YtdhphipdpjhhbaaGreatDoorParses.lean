/-
  SamParses: every text, twice; what is answered is apart from what is answered later.
-/
import Derived.Test.YtdhphipdpjhhbaaGreatDoorRows
import Derived.Test.YtdhphipdpjhhbaaGreatDoorCards
import Derived.Test.YtdhphipdpjhhbaaGreatDoorTie
import Derived.Test.YtdhphipdpjhhbaaGreatDoorRefParseF
import Derived.Test.YtdhphipdpjhhbaaGreatDoorAlike
import Derived.Test.YtdhphipdpjhhbaaGreatDoorOver
import Derived.WalkKit
namespace Go.Proofs.YtdhphipdpjhhbaaGreatDoor
open Go.RowKit

/-- Lists that lie apart from all that is older than B. -/
structure KeptAt (B : Nat) (gs : List Rv) (ys : List Rl) (an ai al : Value) (W : World) : Prop where
  names : W.ownsRow B 9 1 an gs.length (strVals (gs.map (·.1)))
  lens : W.ownsRow B 3 1 ai gs.length (intVals (gs.map (·.2)))
  recs : W.ownsRow B 24 8 al ys.length ((ys.map (·.1)).flatMap rvRow)
  runs : ∀ x ∈ ys, W.ownsRow B 37 2 x.1.runsV x.2.length (rowCells x.2)
  few : gs.length ≤ 64
  many : ys.length ≤ 256
  good : ∀ x ∈ ys, SmR x.R
theorem GotAt.kept {w : World} {fs : List Rv} {xs : List Rl} {vn vi vl : Value} {W : World} (h : GotAt w fs xs vn vi vl W) : KeptAt w.heap.size fs xs vn vi vl W := ⟨h.names, h.lens, h.recs, h.runs, h.few, h.many, h.good⟩
theorem KeptAt.of {B : Nat} {gs : List Rv} {ys : List Rl} {an ai al : Value} {W W' : World} (h : KeptAt B gs ys an ai al W) (hk : ∀ k, B ≤ k → k < W.heap.size → W'.heap[k]? = W.heap[k]?) : KeptAt B gs ys an ai al W' := by
  have go : ∀ {e : TypeId} {size n : Nat} {v : Value} {xs : List Value}, W.ownsRow B e size v n xs → W'.ownsRow B e size v n xs := fun ho => owned_of_block ho fun g _ hg _ => hk g (ho.lt g hg).1 (ho.lt g hg).2
  exact ⟨go h.names, go h.lens, go h.recs, fun x hx => go (h.runs x hx), h.few, h.many, h.good⟩
theorem KeptAt.next {B : Nat} {gs : List Rv} {ys : List Rl} {an ai al : Value} {W W' : World} (h : KeptAt B gs ys an ai al W) (hb : Below W.heap.size W W') : KeptAt B gs ys an ai al W' := h.of fun k _ hk => hb.block k hk
theorem KeptAt.set {B : Nat} {gs : List Rv} {ys : List Rl} {an ai al : Value} {W : World} (h : KeptAt B gs ys an ai al W) {g : Nat} (hg : g < B) (i : Nat) (u : Value) : KeptAt B gs ys an ai al (W.setCell ⟨g, i, none⟩ u) :=
  h.of fun k hk _ => Below.heap_setCell W _ u k (show k ≠ g by omega)
theorem KeptAt.grown {B : Nat} {gs : List Rv} {ys : List Rl} {an ai al : Value} {W W' : World} (h : KeptAt B gs ys an ai al W) {row : Option Nat} (hg : W.grownBy W' row) (hr : ∀ k, row = some k → k < B) : KeptAt B gs ys an ai al W' :=
  h.of fun k hk hlt => hg.block k hlt (fun e => by have := hr k e.symm; omega)
/-- Where SamParses stands as it changes what was answered first: all of it, from the i-th record on. -/
structure MtAt (w : World) (A B : Nat) (gs : List Rv) (ys : List Rl) (an ai al : Value) (nf m : Nat) (vn vi vl : Value) (xs : List Rl) (i : Nat) (W : World) : Prop where
  low : Below w.heap.size w W
  base : w.heap.size ≤ A
  kept : KeptAt B gs ys an ai al W
  names : ∃ ns : List ByteArray, W.ownsRow A 9 1 vn nf (strVals ns)
  lens : ∃ zs : List Int, W.ownsRow A 3 1 vi nf (intVals zs)
  recs : ∃ MS : List RV, W.ownsRow A 24 8 vl m (MS.flatMap rvRow) ∧ ∀ (j : Nat) (x : Rl), xs[j]? = some x → i ≤ j → ∃ nm, MS[j]? = some { x.1 with name := nm }
  runs : ∀ (j : Nat) (x : Rl), xs[j]? = some x → i ≤ j → ∃ l : List Rn, W.ownsRow A 37 2 x.1.runsV x.2.length (rowCells l)
  oldN : ∀ k, vn.ownBlock = some k → k < B
  oldI : ∀ k, vi.ownBlock = some k → k < B
  oldL : ∀ k, vl.ownBlock = some k → k < B
  oldR : ∀ x ∈ xs, ∀ k, x.1.runsV.ownBlock = some k → k < B
theorem MtAt.next {w : World} {A B : Nat} {gs : List Rv} {ys : List Rl} {an ai al : Value} {nf m : Nat} {vn vi vl : Value} {xs : List Rl} {i : Nat} {W W' : World} (h : MtAt w A B gs ys an ai al nf m vn vi vl xs i W) (hb : Below W.heap.size W W') : MtAt w A B gs ys an ai al nf m vn vi vl xs i W' := by
  obtain ⟨ns, hn⟩ := h.names
  obtain ⟨zs, hz⟩ := h.lens
  obtain ⟨MS, hM, hM2⟩ := h.recs
  exact ⟨h.low.trans (hb.mono h.low.size), h.base, h.kept.next hb, ⟨ns, owned_below hn hb⟩, ⟨zs, owned_below hz hb⟩, ⟨MS, owned_below hM hb, hM2⟩, fun j x hx hi => by
    obtain ⟨l, hl⟩ := h.runs j x hx hi
    exact ⟨l, owned_below hl hb⟩, h.oldN, h.oldI, h.oldL, h.oldR⟩
theorem MtAt.setName {w : World} {A B : Nat} {gs : List Rv} {ys : List Rl} {an ai al : Value} {nf m : Nat} {vn vi : Value} {gl cl : Nat} {xs : List Rl} {i : Nat} {W : World} (h : MtAt w A B gs ys an ai al nf m vn vi (.slice (some ⟨gl, 0, none⟩) m cl) xs i W) {x : Rl} (hx : xs[i]? = some x) (u : ByteArray) :
    MtAt w A B gs ys an ai al nf m vn vi (.slice (some ⟨gl, 0, none⟩) m cl) xs i (W.setCell ⟨gl, i * 8, none⟩ (.string u)) := by
  obtain ⟨ns, hn⟩ := h.names
  obtain ⟨zs, hz⟩ := h.lens
  obtain ⟨MS, hM, hM2⟩ := h.recs
  obtain ⟨cs, hcs⟩ := row_block hM
  obtain ⟨nm, hMi⟩ := hM2 i x hx (Nat.le_refl _)
  have hlt : i < MS.length := (List.getElem?_eq_some_iff.1 hMi).1
  refine ⟨h.low.setCell (p := ⟨gl, i * 8, none⟩) (Nat.le_trans h.base (row_base hM)) _, h.base, h.kept.set (h.oldL gl rfl) _ _, ⟨ns, owned_setOther hn hcs (by decide) _⟩, ⟨zs, owned_setOther hz hcs (by decide) _⟩, ⟨MS.set i { x.1 with name := u }, ?_, fun j y hy hj => ?_⟩, fun j y hy hj => ?_, h.oldN, h.oldI, h.oldL, h.oldR⟩
  · have h1 := owned_set hM (i * 8) (.string u)
    rw [show i * 8 = i * 8 + 0 from rfl, flat_set rv_len MS i { x.1 with name := nm } { x.1 with name := u } 0 (.string u) hMi (by decide) rfl] at h1
    exact h1
  · by_cases hji : j = i
    · subst hji
      rw [hx] at hy; cases hy
      exact ⟨u, List.getElem?_set_self hlt⟩
    · obtain ⟨nm', h1⟩ := hM2 j y hy hj
      exact ⟨nm', by rw [List.getElem?_set_ne (fun e => hji e.symm)]; exact h1⟩
  · obtain ⟨l, hl⟩ := h.runs j y hy hj
    exact ⟨l, owned_setOther hl hcs (by decide) _⟩
theorem apart_at {xs : List Rl} (hap : xs.Pairwise fun x y => ∀ g, x.1.runsV.ownBlock = some g → y.1.runsV.ownBlock ≠ some g) {i j : Nat} {x y : Rl} (hx : xs[i]? = some x) (hy : xs[j]? = some y) (hij : i < j) : ∀ g, x.1.runsV.ownBlock = some g → y.1.runsV.ownBlock ≠ some g := by
  obtain ⟨h1, h2⟩ := List.getElem?_eq_some_iff.1 hx
  obtain ⟨h3, h4⟩ := List.getElem?_eq_some_iff.1 hy
  have := List.pairwise_iff_getElem.1 hap i j h1 h3 hij
  rw [h2, h4] at this
  exact this
theorem MtAt.setRun {w : World} {A B : Nat} {gs : List Rv} {ys : List Rl} {an ai al : Value} {nf m : Nat} {vn vi vl : Value} {xs : List Rl} {i : Nat} {W : World} (h : MtAt w A B gs ys an ai al nf m vn vi vl xs i W) (hap : xs.Pairwise fun x y => ∀ g, x.1.runsV.ownBlock = some g → y.1.runsV.ownBlock ≠ some g) {x : Rl} (hx : xs[i]? = some x) {rg rl rc : Nat} (hv : x.1.runsV = .slice (some ⟨rg, 0, none⟩) rl rc) {k : Nat} (hk : k < rl) (z : Int) :
    MtAt w A B gs ys an ai al nf m vn vi vl xs i (W.setCell ⟨rg, k * 2 + 1, none⟩ (.int .i64 z)) := by
  obtain ⟨ns, hn⟩ := h.names
  obtain ⟨zs, hz⟩ := h.lens
  obtain ⟨MS, hM, hM2⟩ := h.recs
  obtain ⟨l, hl⟩ := h.runs i x hx (Nat.le_refl _)
  have hl2 := hl
  rw [hv] at hl2
  have hrl : x.2.length = rl := by
    obtain ⟨a, c, e⟩ := owned_shape hl2
    injection e with _ e _; exact e.symm
  rw [hrl] at hl2
  obtain ⟨cs, hcs⟩ := row_block hl2
  have hll : l.length = rl := by have := hl2.1; rw [rowCells_length] at this; omega
  obtain ⟨q, hq⟩ : ∃ q, l[k]? = some q := ⟨_, List.getElem?_eq_getElem (by omega)⟩
  have hrg : rg < B := h.oldR x (List.mem_of_getElem? hx) rg (by rw [hv]; rfl)
  refine ⟨h.low.setCell (p := ⟨rg, k * 2 + 1, none⟩) (Nat.le_trans h.base (row_base hl2)) _, h.base, h.kept.set hrg _ _, ⟨ns, owned_setOther hn hcs (by decide) _⟩, ⟨zs, owned_setOther hz hcs (by decide) _⟩, ⟨MS, owned_setOther hM hcs (by decide) _, hM2⟩, fun j y hy hj => ?_, h.oldN, h.oldI, h.oldL, h.oldR⟩
  by_cases hji : j = i
  · subst hji
    rw [hx] at hy; cases hy
    have h1 := owned_set hl2 (k * 2 + 1) (.int .i64 z)
    rw [rowCells_set l k q z hq] at h1
    refine ⟨l.set k (q.1, z), ?_⟩
    rw [hv, hrl]; exact h1
  · obtain ⟨l', hl'⟩ := h.runs j y hy hj
    exact ⟨l', owned_setNe hl' (apart_at hap hx hy (by omega) rg (by rw [hv]; rfl))⟩
theorem MtAt.grow {w : World} {A B : Nat} {gs : List Rv} {ys : List Rl} {an ai al : Value} {nf m : Nat} {vn vi : Value} {gl cl : Nat} {xs : List Rl} {i : Nat} {W W' : World} (h : MtAt w A B gs ys an ai al nf m vn vi (.slice (some ⟨gl, 0, none⟩) m cl) xs i W) (hap : xs.Pairwise fun x y => ∀ g, x.1.runsV.ownBlock = some g → y.1.runsV.ownBlock ≠ some g) {x : Rl} (hx : xs[i]? = some x) {o : Obj} (hg : (W.alloc o).grownBy W' x.1.runsV.ownBlock) {ao' : Option Addr} {len' cap' : Nat} :
    (∃ sl, W'.cell? ⟨gl, i * 8 + 4, none⟩ = some sl) ∧ W'.frozen? ⟨gl, i * 8 + 4, none⟩ = false ∧ MtAt w A B gs ys an ai al nf m vn vi (.slice (some ⟨gl, 0, none⟩) m cl) xs (i + 1) (W'.setCell ⟨gl, i * 8 + 4, none⟩ (.slice ao' len' cap')) := by
  have hW := h.next (below_new W o)
  obtain ⟨ns, hn⟩ := hW.names
  obtain ⟨zs, hz⟩ := hW.lens
  obtain ⟨MS, hM, hM2⟩ := hW.recs
  obtain ⟨l, hl⟩ := hW.runs i x hx (Nat.le_refl _)
  have hM' := owned_grown hM hl (by decide) hg
  obtain ⟨cs, hcs⟩ := row_block hM'
  obtain ⟨nm, hMi⟩ := hM2 i x hx (Nat.le_refl _)
  have hlt : i < MS.length := (List.getElem?_eq_some_iff.1 hMi).1
  have hlow : Below w.heap.size w W' := hW.low.grown hg hW.low.size (fun k hk => Nat.le_trans h.base (hl.lt k hk).1)
  refine ⟨⟨_, (rvs_cells hM' hMi).2.2.2.2.1⟩, owned_free hM' _, ⟨hlow.setCell (p := ⟨gl, i * 8 + 4, none⟩) (Nat.le_trans h.base (row_base hM)) _, h.base, (hW.kept.grown hg (fun k hk => h.oldR x (List.mem_of_getElem? hx) k hk)).set (h.oldL gl rfl) _ _, ⟨ns, owned_setOther (owned_grown hn hl (by decide) hg) hcs (by decide) _⟩, ⟨zs, owned_setOther (owned_grown hz hl (by decide) hg) hcs (by decide) _⟩, ⟨MS.set i { x.1 with name := nm, ao := ao', len := len', cap := cap' }, ?_, fun j y hy hj => ?_⟩, fun j y hy hj => ?_, h.oldN, h.oldI, h.oldL, h.oldR⟩⟩
  · have h1 := owned_set hM' (i * 8 + 4) (.slice ao' len' cap')
    rw [flat_set rv_len MS i { x.1 with name := nm } { x.1 with name := nm, ao := ao', len := len', cap := cap' } 4 (.slice ao' len' cap') hMi (by decide) rfl] at h1
    exact h1
  · obtain ⟨nm', h1⟩ := hM2 j y hy (by omega)
    exact ⟨nm', by rw [List.getElem?_set_ne (by omega)]; exact h1⟩
  · obtain ⟨l', hl'⟩ := hW.runs j y hy (by omega)
    refine ⟨l', owned_setOther (owned_of_block hl' fun g _ hg1 hg2 => hg.block g (lt_block hg2) (fun e => ?_)) hcs (by decide) _⟩
    exact apart_at hap hx hy (by omega) g e.symm hg1
theorem MtAt.setN {w : World} {A B : Nat} {gs : List Rv} {ys : List Rl} {an ai al : Value} {nf m : Nat} {vi vl : Value} {gn cn : Nat} {xs : List Rl} {i : Nat} {W : World} (h : MtAt w A B gs ys an ai al nf m (.slice (some ⟨gn, 0, none⟩) nf cn) vi vl xs i W) {j : Nat} (hj : j < nf) (u : ByteArray) :
    (∃ c, W.cell? ⟨gn, j, none⟩ = some c) ∧ W.frozen? ⟨gn, j, none⟩ = false ∧ MtAt w A B gs ys an ai al nf m (.slice (some ⟨gn, 0, none⟩) nf cn) vi vl xs i (W.setCell ⟨gn, j, none⟩ (.string u)) := by
  obtain ⟨ns, hn⟩ := h.names
  obtain ⟨zs, hz⟩ := h.lens
  obtain ⟨MS, hM, hM2⟩ := h.recs
  obtain ⟨cs, hcs⟩ := row_block hn
  have hl : ns.length = nf := by have := hn.1; simpa [strVals] using this
  obtain ⟨s, hs⟩ : ∃ s, ns[j]? = some s := ⟨_, List.getElem?_eq_getElem (by omega)⟩
  refine ⟨⟨_, (owned_cells hn j (.string s) (by simp [strVals, hs])).1⟩, owned_free hn j, ⟨h.low.setCell (p := ⟨gn, j, none⟩) (Nat.le_trans h.base (row_base hn)) _, h.base, h.kept.set (h.oldN gn rfl) _ _, ⟨ns.set j u, ?_⟩, ⟨zs, owned_setOther hz hcs (by decide) _⟩, ⟨MS, owned_setOther hM hcs (by decide) _, hM2⟩, fun j' y hy hj' => ?_, h.oldN, h.oldI, h.oldL, h.oldR⟩⟩
  · have h1 := owned_set hn j (.string u)
    rw [show (strVals ns).set j (.string u) = strVals (ns.set j u) by simp [strVals, List.map_set]] at h1
    exact h1
  · obtain ⟨l', hl'⟩ := h.runs j' y hy hj'
    exact ⟨l', owned_setOther hl' hcs (by decide) _⟩
theorem MtAt.setI {w : World} {A B : Nat} {gs : List Rv} {ys : List Rl} {an ai al : Value} {nf m : Nat} {vn vl : Value} {gi ci : Nat} {xs : List Rl} {i : Nat} {W : World} (h : MtAt w A B gs ys an ai al nf m vn (.slice (some ⟨gi, 0, none⟩) nf ci) vl xs i W) {j : Nat} (hj : j < nf) (u : Int) :
    (∃ c : Int, W.cell? ⟨gi, j, none⟩ = some (.int .i64 c)) ∧ W.frozen? ⟨gi, j, none⟩ = false ∧ MtAt w A B gs ys an ai al nf m vn (.slice (some ⟨gi, 0, none⟩) nf ci) vl xs i (W.setCell ⟨gi, j, none⟩ (.int .i64 u)) := by
  obtain ⟨ns, hn⟩ := h.names
  obtain ⟨zs, hz⟩ := h.lens
  obtain ⟨MS, hM, hM2⟩ := h.recs
  obtain ⟨cs, hcs⟩ := row_block hz
  have hl : zs.length = nf := by have := hz.1; simpa [intVals] using this
  obtain ⟨s, hs⟩ : ∃ s, zs[j]? = some s := ⟨_, List.getElem?_eq_getElem (by omega)⟩
  refine ⟨⟨s, (owned_cells hz j (.int .i64 s) (by simp [intVals, hs])).1⟩, owned_free hz j, ⟨h.low.setCell (p := ⟨gi, j, none⟩) (Nat.le_trans h.base (row_base hz)) _, h.base, h.kept.set (h.oldI gi rfl) _ _, ⟨ns, owned_setOther hn hcs (by decide) _⟩, ⟨zs.set j u, ?_⟩, ⟨MS, owned_setOther hM hcs (by decide) _, hM2⟩, fun j' y hy hj' => ?_, h.oldN, h.oldI, h.oldL, h.oldR⟩⟩
  · have h1 := owned_set hz j (.int .i64 u)
    rw [show (intVals zs).set j (.int .i64 u) = intVals (zs.set j u) by simp [intVals, List.map_set]] at h1
    exact h1
  · obtain ⟨l', hl'⟩ := h.runs j' y hy hj'
    exact ⟨l', owned_setOther hl' hcs (by decide) _⟩

set_option maxRecDepth 20000 in
set_option maxHeartbeats 8000000 in
theorem parses_walk (s : ByteArray) (w : World) (hstd : Std w) (_h0 : s.size ≤ maxLen) :
    Calls Tryz.prog 6 #[.string s] w fun e w' => e = .returned (.bool true) ∧ Below w.heap.size w w' := by
  have HStd : Hid (∀ W, Below w.heap.size w W → Std W) := fun W hW => hstd.below hW
  have HPa : Hid (∀ W, Below w.heap.size w W → Calls Tryz.prog 21 #[.string s] W fun e w' => OutPost (outF s.data.toList) W e w') := fun W hW => parseAny_calls s W (HStd.out W hW)
  have HPb : Hid (∀ W, Calls Tryz.prog 22 #[.string s] W fun e w' => OutPost (outF s.data.toList) W e w') := fun W => refParseAny_calls s W
  generalize outF s.data.toList = O at *
  clear hstd
  obtain ⟨i0, hi, hz0, hz1, hz2⟩ := info_parts info29
  go_enter Tryz.func6, Tryz.ntmps6
  go_wp2_with fail
  refine (awake_calls w (HStd.out _ (Below.refl _ _))).mono ?_
  rintro e w1 ⟨rfl, hb1⟩
  have HB1 : Hid (Below w.heap.size w w1) := hb1
  clear hb1
  go_wp2_with fail
  refine (HPa.out _ HB1.out).mono ?_
  rintro e w2 ⟨fs, xs, vn, vi, vl, rfl, hga, hfa⟩
  have HGa : Hid (GotAt w1 fs xs vn vi vl w2) := hga
  have HFa : Hid ((fs.map Rv.P, xs.map Rl.R) = O.1) := hfa
  clear hga hfa
  have HB2 : Hid (Below w.heap.size w w2) := HB1.out.trans (HGa.out.low.mono HB1.out.size)
  go_wp2_with fail
  refine (HPb.out _).mono ?_
  rintro e w3 ⟨gs, ys, an, ai, al, rfl, hgb, hfb⟩
  have HGb : Hid (GotAt w2 gs ys an ai al w3) := hgb
  have HEq : Hid (fs = gs ∧ xs.map Rl.R = ys.map Rl.R) := by
    have h1 : (fs.map Rv.P, xs.map Rl.R) = (gs.map Rv.P, ys.map Rl.R) := by rw [HFa.out, hfb]
    simp only [Prod.mk.injEq] at h1
    exact ⟨rv_map_inj h1.1, h1.2⟩
  have HFb : Hid ((gs.map Rv.P, ys.map Rl.R) = O.1) := hfb
  clear hgb hfb HFa
  have HB3 : Hid (Below w.heap.size w w3) := HB2.out.trans (HGb.out.low.mono HB2.out.size)
  have HGa3 : Hid (GotAt w1 fs xs vn vi vl w3) := HGa.out.next HGb.out.low
  obtain ⟨no, nc, hvn⟩ := owned_shape HGa.out.names
  obtain ⟨io, ic, hvi⟩ := owned_shape HGa.out.lens
  obtain ⟨lo, lc, hvl⟩ := owned_shape HGa.out.recs
  obtain ⟨ano, anc, hvan⟩ := owned_shape HGb.out.names
  obtain ⟨aio, aic, hvai⟩ := owned_shape HGb.out.lens
  obtain ⟨alo, alc, hval⟩ := owned_shape HGb.out.recs
  obtain ⟨nf, hnf⟩ : ∃ n, fs.length = n := ⟨_, rfl⟩
  obtain ⟨m, hm⟩ : ∃ n, xs.length = n := ⟨_, rfl⟩
  obtain ⟨ng, hng⟩ : ∃ n, gs.length = n := ⟨_, rfl⟩
  obtain ⟨mg, hmg⟩ : ∃ n, ys.length = n := ⟨_, rfl⟩
  rw [hnf] at hvn hvi
  rw [hm] at hvl
  rw [hng] at hvan hvai
  rw [hmg] at hval
  subst hvn hvi hvl hvan hvai hval
  have hfew : nf ≤ 64 := by rw [← hnf]; exact HGa.out.few
  have hmany : m ≤ 256 := by rw [← hm]; exact HGa.out.many
  have hfew2 : ng ≤ 64 := by rw [← hng]; exact HGb.out.few
  have hmany2 : mg ≤ 256 := by rw [← hmg]; exact HGb.out.many
  have HN : Hid (fs.length = nf) := hnf
  have HM : Hid (xs.length = m) := hm
  have HNg : Hid (gs.length = ng) := hng
  have HMg : Hid (ys.length = mg) := hmg
  clear hnf hm hng hmg
  have HKx : Hid (∀ W, KeptAt w2.heap.size gs ys (.slice ano ng anc) (.slice aio ng aic) (.slice alo mg alc) W → StrsAt W ano ng (gs.map (·.1)) ∧ IntsAt W aio ng (gs.map (·.2)) ∧ RecsAt W alo mg ys) := by
    intro W hK
    have h1 := hK.names
    have h2 := hK.lens
    have h3 := hK.recs
    rw [HNg.out] at h1 h2
    rw [HMg.out] at h3
    exact ⟨owned_strs h1 hfew2, owned_ints h2 hfew2, recs_row h3 hK.runs hK.good HMg.out hmany2⟩
  have HKf : Hid (∀ W W1 fs xs no nc io ic lo lc nf m, GotAt W fs xs (.slice no nf nc) (.slice io nf ic) (.slice lo m lc) W1 → fs.length = nf → xs.length = m → nf ≤ 64 → m ≤ 256 → StrsAt W1 no nf (fs.map (·.1)) ∧ IntsAt W1 io nf (fs.map (·.2)) ∧ RecsAt W1 lo m xs) := by
    intro W W1 fs xs no nc io ic lo lc nf m hG e1 e2 e3 e4
    have h1 := hG.names
    have h2 := hG.lens
    have h3 := hG.recs
    rw [e1] at h1 h2
    rw [e2] at h3
    exact ⟨owned_strs h1 e3, owned_ints h2 e3, recs_row h3 hG.runs hG.good e2 e4⟩
  obtain ⟨hs1, hs2, hs3⟩ := HKf.out _ _ _ _ _ _ _ _ _ _ _ _ HGa3.out HN.out HM.out hfew hmany
  obtain ⟨ht1, ht2, ht3⟩ := HKx.out _ HGb.out.kept
  have HT1 : Hid (Calls Tryz.prog 23 #[.slice no nf nc, .slice ano ng anc] w3 fun e w' => e = .returned (.bool true) ∧ Below w3.heap.size w3 w') := by
    have h := texts_calls no nf nc _ ano ng anc _ w3 hs1 ht1
    rw [HEq.out.1, decide_eq_true rfl] at h
    exact h
  have HT2 : Hid (∀ W, Below w3.heap.size w3 W → Calls Tryz.prog 24 #[.slice io nf ic, .slice aio ng aic] W fun e w' => e = .returned (.bool true) ∧ Below W.heap.size W w') := by
    intro W hW
    have h := numbers_calls io nf ic _ aio ng aic _ W (hs2.below hW) (ht2.below hW)
    rw [HEq.out.1, decide_eq_true rfl] at h
    exact h
  have HT3 : Hid (∀ W, Below w3.heap.size w3 W → Calls Tryz.prog 25 #[.slice lo m lc, .slice alo mg alc] W fun e w' => e = .returned (.bool true) ∧ Below W.heap.size W w') := by
    intro W hW
    have h := alike_calls lo m lc xs alo mg alc ys W (hs3.below hW) (ht3.below hW)
    rw [alikeB_of HEq.out.2] at h
    exact h
  clear hs1 hs2 hs3 ht1 ht2 ht3
  go_wp2_with fail
  refine HT1.out.mono ?_
  rintro e w4 ⟨rfl, hb4⟩
  have HD4 : Hid (Below w3.heap.size w3 w4) := hb4
  clear hb4 HT1
  go_wp2_with fail
  refine (HT2.out _ HD4.out).mono ?_
  rintro e w5 ⟨rfl, hb5⟩
  have HD5 : Hid (Below w3.heap.size w3 w5) := HD4.out.trans (hb5.mono HD4.out.size)
  clear hb5 HT2 HD4
  go_wp2_with fail
  refine (HT3.out _ HD5.out).mono ?_
  rintro e w6 ⟨rfl, hb6⟩
  have HD6 : Hid (Below w3.heap.size w3 w6) := HD5.out.trans (hb6.mono HD5.out.size)
  clear hb6 HT3 HD5
  have HGood : Hid (∀ x ∈ xs, SmR x.R) := HGa.out.good
  have HAp : Hid (xs.Pairwise fun x y => ∀ g, x.1.runsV.ownBlock = some g → y.1.runsV.ownBlock ≠ some g) := HGa.out.apart
  have HMt0 : Hid (MtAt w w1.heap.size w2.heap.size gs ys (.slice ano ng anc) (.slice aio ng aic) (.slice alo mg alc) nf m (.slice no nf nc) (.slice io nf ic) (.slice lo m lc) xs 0 w6) := by
    have ha := HGa3.out.next HD6.out
    have h2 := ha.names
    have h3 := ha.lens
    have h4 := ha.recs
    rw [HN.out] at h2 h3
    rw [HM.out] at h4
    refine ⟨HB3.out.trans (HD6.out.mono HB3.out.size), HB1.out.size, HGb.out.kept.next HD6.out, ⟨_, h2⟩, ⟨_, h3⟩, ⟨_, h4, fun j x hx _ => ⟨x.1.name, by rw [List.getElem?_map, hx]; rfl⟩⟩, fun j x hx _ => ⟨_, ha.runs x (List.mem_of_getElem? hx)⟩, fun k hk => (HGa.out.names.lt k hk).2, fun k hk => (HGa.out.lens.lt k hk).2, fun k hk => (HGa.out.recs.lt k hk).2, fun x hx k hk => ((HGa.out.runs x hx).lt k hk).2⟩
  clear HGa HGa3 HGb HD6 HB1 HB2 HB3 HPb
  generalize w1.heap.size = A at *
  generalize w2.heap.size = B at *
  go_wp2_with fail
  go_loopw [17] (fun iv wr => ∃ i : Nat, i ≤ m ∧ iv = .int .i64 i ∧ MtAt w A B gs ys (.slice ano ng anc) (.slice aio ng aic) (.slice alo mg alc) nf m (.slice no nf nc) (.slice io nf ic) (.slice lo m lc) xs i wr) (fun iv _ => m - (intOf iv).toNat)
  case atStart => exact ⟨0, Nat.zero_le _, rfl, HMt0.out⟩
  case round =>
    obtain ⟨i, hi1, rfl, hmt⟩ := hrel
    have HMt : Hid (MtAt w A B gs ys (.slice ano ng anc) (.slice aio ng aic) (.slice alo mg alc) nf m (.slice no nf nc) (.slice io nf ic) (.slice lo m lc) xs i wr) := hmt
    clear hmt HMt0
    by_cases hlt : i < m
    · have hdi : decide ((i : Int) < (m : Int)) = true := by simp; omega
      have hio : ∃ gl, lo = some ⟨gl, 0, none⟩ := by
        obtain ⟨MS, hM, _⟩ := HMt.out.recs
        obtain ⟨g, c, he, _⟩ := owned_some hM (by omega)
        injection he with he _ _
        exact ⟨g, he⟩
      obtain ⟨gl, rfl⟩ := hio
      obtain ⟨⟨⟨xnm, xm, xrf, xp, xo, xl, xc, xb, xq, xs'⟩, xr⟩, hx⟩ : ∃ x, xs[i]? = some x := ⟨_, List.getElem?_eq_getElem (by rw [HM.out]; exact hlt)⟩
      have HXi : Hid (xs[i]? = some (⟨xnm, xm, xrf, xp, xo, xl, xc, xb, xq, xs'⟩, xr)) := hx
      have HSl : Hid (∀ W, MtAt w A B gs ys (.slice ano ng anc) (.slice aio ng aic) (.slice alo mg alc) nf m (.slice no nf nc) (.slice io nf ic) (.slice (some ⟨gl, 0, none⟩) m lc) xs i W → W.cell? ⟨gl, i * 8 + 4, none⟩ = some (.slice xo xl xc)) := by
        intro W hW
        obtain ⟨MS, hM, hM2⟩ := hW.recs
        obtain ⟨nm, hMi⟩ := hM2 i _ hx (Nat.le_refl _)
        exact (rvs_cells hM hMi).2.2.2.2.1
      obtain ⟨nm0, y0⟩ : ∃ nm0, wr.cell? ⟨gl, i * 8, none⟩ = some (.string nm0) := by
        obtain ⟨MS, hM, hM2⟩ := HMt.out.recs
        obtain ⟨nm, hMi⟩ := hM2 i _ hx (Nat.le_refl _)
        exact ⟨_, (rvs_cells hM hMi).1⟩
      have yf : wr.frozen? ⟨gl, i * 8, none⟩ = false := by
        obtain ⟨MS, hM, _⟩ := HMt.out.recs
        exact owned_free hM _
      have HMa : Hid (MtAt w A B gs ys (.slice ano ng anc) (.slice aio ng aic) (.slice alo mg alc) nf m (.slice no nf nc) (.slice io nf ic) (.slice (some ⟨gl, 0, none⟩) m lc) xs i (wr.setCell ⟨gl, i * 8, none⟩ (.string ⟨#[109, 97, 114, 107]⟩))) := HMt.out.setName hx ⟨#[109, 97, 114, 107]⟩
      have HRl : Hid (xr.length = xl ∧ xl ≤ maxLen) := by
        obtain ⟨l, hl⟩ := HMt.out.runs i _ hx (Nat.le_refl _)
        obtain ⟨a, c, e⟩ := owned_shape hl
        injection e with _ e _
        refine ⟨e.symm, ?_⟩
        by_cases h0 : 0 < xl
        · obtain ⟨_, _, _, _, _, h5, _⟩ := owned_some hl (by rw [← e]; exact h0)
          rw [← e] at h5; exact h5
        · show xl ≤ _; omega
      have hxl := HRl.out.2
      unfold maxLen at hxl
      have hxs : xl ≤ 131074 := by
        have := (HGood.out _ (List.mem_of_getElem? hx)).few
        rw [← HRl.out.1]; exact this
      clear hx HMt
      go_wp2_with fail
      clear y0 yf
      generalize wr.setCell ⟨gl, i * 8, none⟩ (.string ⟨#[109, 97, 114, 107]⟩) = wa at *
      go_loopw [18] (fun kv wq => ∃ k : Nat, k ≤ xl ∧ kv = .int .i64 k ∧ MtAt w A B gs ys (.slice ano ng anc) (.slice aio ng aic) (.slice alo mg alc) nf m (.slice no nf nc) (.slice io nf ic) (.slice (some ⟨gl, 0, none⟩) m lc) xs i wq) (fun kv _ => xl - (intOf kv).toNat)
      case atStart => exact ⟨0, Nat.zero_le _, rfl, HMa.out⟩
      case round =>
        obtain ⟨k, hk1, rfl, hmt⟩ := hrel
        have HMb : Hid (MtAt w A B gs ys (.slice ano ng anc) (.slice aio ng aic) (.slice alo mg alc) nf m (.slice no nf nc) (.slice io nf ic) (.slice (some ⟨gl, 0, none⟩) m lc) xs i wr) := hmt
        have y4 := HSl.out _ hmt
        clear hmt HMa
        by_cases hlk : k < xl
        · have hdk : decide ((k : Int) < (xl : Int)) = true := by simp; omega
          have hkI : (k : Int) < (xl : Int) := by omega
          have hiI : (i : Int) < (m : Int) := by omega
          obtain ⟨rg, rfl⟩ : ∃ rg, xo = some ⟨rg, 0, none⟩ := by
            obtain ⟨l, hl⟩ := HMb.out.runs i _ HXi.out (Nat.le_refl _)
            obtain ⟨g, c, he, _⟩ := owned_some hl (by show 0 < xr.length; rw [HRl.out.1]; omega)
            injection he with he _ _
            exact ⟨g, he⟩
          obtain ⟨z0, z1⟩ : ∃ z0 : Int, wr.cell? ⟨rg, k * 2 + 1, none⟩ = some (.int .i64 z0) := by
            obtain ⟨l, hl⟩ := HMb.out.runs i _ HXi.out (Nat.le_refl _)
            have hl2 : wr.ownsRow A 37 2 (.slice (some ⟨rg, 0, none⟩) xl xc) xl (rowCells l) := by
              have h : wr.ownsRow A 37 2 (.slice (some ⟨rg, 0, none⟩) xl xc) xr.length (rowCells l) := hl
              rw [HRl.out.1] at h; exact h
            have hll : l.length = xl := by have := hl2.1; rw [rowCells_length] at this; omega
            obtain ⟨q, hq⟩ : ∃ q, l[k]? = some q := ⟨_, List.getElem?_eq_getElem (by omega)⟩
            exact ⟨_, (owned_cells hl2 _ _ (rowCells_get l k q hq).2).1⟩
          have zf : wr.frozen? ⟨rg, k * 2 + 1, none⟩ = false := by
            obtain ⟨l, hl⟩ := HMb.out.runs i _ HXi.out (Nat.le_refl _)
            have hl2 : wr.ownsRow A 37 2 (.slice (some ⟨rg, 0, none⟩) xl xc) xl (rowCells l) := by
              have h : wr.ownsRow A 37 2 (.slice (some ⟨rg, 0, none⟩) xl xc) xr.length (rowCells l) := hl
              rw [HRl.out.1] at h; exact h
            exact owned_free hl2 _
          have HMc : Hid (MtAt w A B gs ys (.slice ano ng anc) (.slice aio ng aic) (.slice alo mg alc) nf m (.slice no nf nc) (.slice io nf ic) (.slice (some ⟨gl, 0, none⟩) m lc) xs i (wr.setCell ⟨rg, k * 2 + 1, none⟩ (.int .i64 (-1)))) := HMb.out.setRun HAp.out HXi.out rfl hlk (-1)
          clear HMb
          go_wp2
          go_roundw
          case rel => exact ⟨k + 1, by omega, by go_num, HMc.out⟩
          case measure => simp [intOf]; omega
        · have hdk : decide ((k : Int) < (xl : Int)) = false := by simp; omega
          have hiI : (i : Int) < (m : Int) := by omega
          obtain ⟨l, hl⟩ := HMb.out.runs i _ HXi.out (Nat.le_refl _)
          have hl2 : wr.ownsRow A 37 2 (.slice xo xl xc) xl (rowCells l) := by
            have h : wr.ownsRow A 37 2 (.slice xo xl xc) xr.length (rowCells l) := hl
            rw [HRl.out.1] at h; exact h
          have hsz : A ≤ wr.heap.size := by
            obtain ⟨MS, hM, _⟩ := HMb.out.recs
            obtain ⟨cs, hcs⟩ := row_block hM
            have h1 := row_base hM
            have h2 := lt_block hcs
            omega
          clear hl
          go_wp2_with (at_builtin; go_loud (refine wpList_append_own _ rfl _ _ 22 rfl A 37 i0 (.agg #[.int .u8 0, .int .i64 0]) 2 16 Tryz.underlying22 hi hz0 hz1 hz2 rfl (by decide) (.slice xo xl xc) _ _ rfl (hl2.alloc _) ⟨_, 0, none⟩ 1 1 (rnCells (88, 0)) rfl rfl (cell_two_new _ _ _ _) (rn_oneCell _) ?c3 ?c4 ?c5 ?_))
          case c3 => unfold maxLen; omega
          case c4 => omega
          case c5 => first | omega | (simp; omega)
          intro v' w7 ho7 hg7 _
          obtain ⟨ao7, cap7, rfl⟩ := owned_shape ho7
          obtain ⟨⟨sl, u1⟩, u2, u3⟩ := HMb.out.grow HAp.out HXi.out hg7 (ao' := ao7) (len' := xl + 1) (cap' := cap7)
          have HM7 : Hid (MtAt w A B gs ys (.slice ano ng anc) (.slice aio ng aic) (.slice alo mg alc) nf m (.slice no nf nc) (.slice io nf ic) (.slice (some ⟨gl, 0, none⟩) m lc) xs (i + 1) (w7.setCell ⟨gl, i * 8 + 4, none⟩ (.slice ao7 (xl + 1) cap7))) := u3
          clear ho7 hg7 u3 hl2 HMb
          go_wp2
          go_roundw
          case rel => exact ⟨i + 1, by omega, by go_num, HM7.out⟩
          case measure => simp [intOf]; omega
    · have hdi : decide ((i : Int) < (m : Int)) = false := by simp; omega
      go_wp2_with fail
      go_loopw [19] (fun jv wr => ∃ j : Nat, j ≤ nf ∧ jv = .int .i64 j ∧ MtAt w A B gs ys (.slice ano ng anc) (.slice aio ng aic) (.slice alo mg alc) nf m (.slice no nf nc) (.slice io nf ic) (.slice lo m lc) xs i wr) (fun jv _ => nf - (intOf jv).toNat)
      case atStart => exact ⟨0, Nat.zero_le _, rfl, HMt.out⟩
      case round =>
        obtain ⟨j, hj1, rfl, hmt⟩ := hrel
        have HMb : Hid (MtAt w A B gs ys (.slice ano ng anc) (.slice aio ng aic) (.slice alo mg alc) nf m (.slice no nf nc) (.slice io nf ic) (.slice lo m lc) xs i wr) := hmt
        clear hmt HMt
        by_cases hlj : j < nf
        · have hdj : decide ((j : Int) < (nf : Int)) = true := by simp; omega
          obtain ⟨gn, rfl⟩ : ∃ gn, no = some ⟨gn, 0, none⟩ := by
            obtain ⟨ns, hn⟩ := HMb.out.names
            obtain ⟨g, c, he, _⟩ := owned_some hn (by omega)
            injection he with he _ _
            exact ⟨g, he⟩
          obtain ⟨⟨c, u1⟩, u2, u3⟩ := HMb.out.setN hlj ⟨#[109, 97, 114, 107]⟩
          have HMc : Hid (MtAt w A B gs ys (.slice ano ng anc) (.slice aio ng aic) (.slice alo mg alc) nf m (.slice (some ⟨gn, 0, none⟩) nf nc) (.slice io nf ic) (.slice lo m lc) xs i (wr.setCell ⟨gn, j, none⟩ (.string ⟨#[109, 97, 114, 107]⟩))) := u3
          clear u3 HMb
          go_wp2
          go_roundw
          case rel => exact ⟨j + 1, by omega, by go_num, HMc.out⟩
          case measure => simp [intOf]; omega
        · have hdj : decide ((j : Int) < (nf : Int)) = false := by simp; omega
          go_wp2_with fail
          go_loopw [20] (fun jv wr => ∃ j : Nat, j ≤ nf ∧ jv = .int .i64 j ∧ MtAt w A B gs ys (.slice ano ng anc) (.slice aio ng aic) (.slice alo mg alc) nf m (.slice no nf nc) (.slice io nf ic) (.slice lo m lc) xs i wr) (fun jv _ => nf - (intOf jv).toNat)
          case atStart => exact ⟨0, Nat.zero_le _, rfl, HMb.out⟩
          case round =>
            obtain ⟨j2, hj2, rfl, hmt⟩ := hrel
            have HMd : Hid (MtAt w A B gs ys (.slice ano ng anc) (.slice aio ng aic) (.slice alo mg alc) nf m (.slice no nf nc) (.slice io nf ic) (.slice lo m lc) xs i wr) := hmt
            clear hmt HMb
            by_cases hlj2 : j2 < nf
            · have hdj2 : decide ((j2 : Int) < (nf : Int)) = true := by simp; omega
              obtain ⟨gi, rfl⟩ : ∃ gi, io = some ⟨gi, 0, none⟩ := by
                obtain ⟨zs, hz⟩ := HMd.out.lens
                obtain ⟨g, c, he, _⟩ := owned_some hz (by omega)
                injection he with he _ _
                exact ⟨g, he⟩
              obtain ⟨⟨c, u1⟩, u2, u3⟩ := HMd.out.setI hlj2 (-1)
              have HMc : Hid (MtAt w A B gs ys (.slice ano ng anc) (.slice aio ng aic) (.slice alo mg alc) nf m (.slice no nf nc) (.slice (some ⟨gi, 0, none⟩) nf ic) (.slice lo m lc) xs i (wr.setCell ⟨gi, j2, none⟩ (.int .i64 (-1)))) := u3
              clear u3 HMd
              go_wp2
              go_roundw
              case rel => exact ⟨j2 + 1, by omega, by go_num, HMc.out⟩
              case measure => simp [intOf]; omega
            · have hdj2 : decide ((j2 : Int) < (nf : Int)) = false := by simp; omega
              have HK : Hid (KeptAt B gs ys (.slice ano ng anc) (.slice aio ng aic) (.slice alo mg alc) wr) := HMd.out.kept
              have HL : Hid (Below w.heap.size w wr) := HMd.out.low
              clear HMd
              go_wp2_with fail
              refine (HPa.out _ HL.out).mono ?_
              rintro e w8 ⟨fs2, xs2, vn2, vi2, vl2, rfl, hg2, hf2⟩
              obtain ⟨no2, nc2, hvn2⟩ := owned_shape hg2.names
              obtain ⟨io2, ic2, hvi2⟩ := owned_shape hg2.lens
              obtain ⟨lo2, lc2, hvl2⟩ := owned_shape hg2.recs
              obtain ⟨nf2, hnf2⟩ : ∃ n, fs2.length = n := ⟨_, rfl⟩
              obtain ⟨m2, hm2⟩ : ∃ n, xs2.length = n := ⟨_, rfl⟩
              rw [hnf2] at hvn2 hvi2
              rw [hm2] at hvl2
              subst hvn2 hvi2 hvl2
              have h64 : nf2 ≤ 64 := by rw [← hnf2]; exact hg2.few
              have h256 : m2 ≤ 256 := by rw [← hm2]; exact hg2.many
              have HEq2 : Hid (fs2 = gs ∧ xs2.map Rl.R = ys.map Rl.R) := by
                have h1 : (fs2.map Rv.P, xs2.map Rl.R) = (gs.map Rv.P, ys.map Rl.R) := by rw [hf2, HFb.out]
                simp only [Prod.mk.injEq] at h1
                exact ⟨rv_map_inj h1.1, h1.2⟩
              obtain ⟨hs1, hs2, hs3⟩ := HKf.out _ _ _ _ _ _ _ _ _ _ _ _ hg2 hnf2 hm2 h64 h256
              obtain ⟨ht1, ht2, ht3⟩ := HKx.out _ (HK.out.next hg2.low)
              have HL8 : Hid (Below w.heap.size w w8) := HL.out.trans (hg2.low.mono HL.out.size)
              have HT1 : Hid (Calls Tryz.prog 23 #[.slice no2 nf2 nc2, .slice ano ng anc] w8 fun e w' => e = .returned (.bool true) ∧ Below w8.heap.size w8 w') := by
                have h := texts_calls no2 nf2 nc2 _ ano ng anc _ w8 hs1 ht1
                rw [HEq2.out.1, decide_eq_true rfl] at h
                exact h
              have HT2 : Hid (∀ W, Below w8.heap.size w8 W → Calls Tryz.prog 24 #[.slice io2 nf2 ic2, .slice aio ng aic] W fun e w' => e = .returned (.bool true) ∧ Below W.heap.size W w') := by
                intro W hW
                have h := numbers_calls io2 nf2 ic2 _ aio ng aic _ W (hs2.below hW) (ht2.below hW)
                rw [HEq2.out.1, decide_eq_true rfl] at h
                exact h
              have HT3 : Hid (∀ W, Below w8.heap.size w8 W → Calls Tryz.prog 25 #[.slice lo2 m2 lc2, .slice alo mg alc] W fun e w' => e = .returned (.bool true) ∧ Below W.heap.size W w') := by
                intro W hW
                have h := alike_calls lo2 m2 lc2 xs2 alo mg alc ys W (hs3.below hW) (ht3.below hW)
                rw [alikeB_of HEq2.out.2] at h
                exact h
              clear hs1 hs2 hs3 ht1 ht2 ht3 hg2 hf2 hnf2 hm2
              go_wp2_with fail
              refine HT1.out.mono ?_
              rintro e w9 ⟨rfl, hb9⟩
              have HD9 : Hid (Below w8.heap.size w8 w9) := hb9
              clear hb9 HT1
              go_wp2_with fail
              refine (HT2.out _ HD9.out).mono ?_
              rintro e w10 ⟨rfl, hb10⟩
              have HD10 : Hid (Below w8.heap.size w8 w10) := HD9.out.trans (hb10.mono HD9.out.size)
              clear hb10 HT2 HD9
              go_wp2_with fail
              refine (HT3.out _ HD10.out).mono ?_
              rintro e w11 ⟨rfl, hb11⟩
              have HD11 : Hid (Below w.heap.size w w11) := HL8.out.trans ((HD10.out.trans (hb11.mono HD10.out.size)).mono HL8.out.size)
              clear hb11 HT3 HD10
              have e1 : (O.2.1 == O.2.1) = true := by simp
              have e2 : (O.2.2 == O.2.2) = true := by simp
              go_wp2
              go_ret
              exact ⟨rfl, HD11.out⟩

namespace samParses
open Go.ChangeShapes Go.WideShapes Go.ChangeAt Go.RowKit
open Go.ChangeMaps (open_string shut_string)

theorem reads (os : Os) {H : Type} (enc : TypeId × Value → H) : ∃ places, DataW.whole enc Tryz.prog ((World.laidAll Tryz.prog os theLaid).forCall (fun _ _ => 0) ⟨#[], #[.string ByteArray.empty], []⟩).memory Tryz.f6.params.toList Rows.samParsesSpec.vars false #[.string ByteArray.empty].toList 8 = some ([.lit (.string [])], [], places) :=
  ⟨[], by kernel_rfl⟩

set_option maxRecDepth 100000 in
theorem lifted (os : Os) (started : os.Started) (H : Type) (enc : TypeId × Value → H) (F : Stop.Interp) :
    ReturnsInHanded {} Tryz.checked os 6 .any ((OpenSpec.ofChange Rows.samParsesSpec).preRow enc Tryz.prog Tryz.f6 Rows.samParsesRow.domain false Rows.samParsesRow.laid) (((OpenSpec.ofChange Rows.samParsesSpec).at F).post enc Tryz.prog Tryz.f6 false true false false) := by
  obtain ⟨places, hx⟩ := reads os enc
  refine returnsInHanded_of_row (C := Tryz.checked) (s := (OpenSpec.ofChange Rows.samParsesSpec)) own started (by kernel_rfl) Tryz.func6
    (witness_row_at (enc := enc) (C := Tryz.checked) false (World.laidAll Tryz.prog os theLaid) #[.string ByteArray.empty] (World.laidAll_os _ _ _) (by kernel_rfl) (by kernel_rfl) (by kernel_rfl)
      (OpenSpec.preRow_of_cond 8 hx (by kernel_rfl) (fun k hk => by cases hk) (by kernel_rfl) (laid_met os _))) ?_
  intro W base args ds gs before hval0 hW _ hcond _ hL hSh _
  have hval : ∀ (j : Nat) t v, Tryz.f6.params[j]? = some t → args[j]? = some v → Value.okWide Tryz.prog W .any base t v := hval0
  have hW' := hW
  obtain ⟨p, q, hA0, hV, rfl, hfz, hnd⟩ := hW
  have hA : DataW.TrodAll enc Tryz.prog W 0 (fun _ => true) true Tryz.f6.params.toList args.toList ds p := hA0
  rw [Tryz.params6] at hA hval
  obtain ⟨v0, vs0, d0, ds0, p0, q0, hargs, rfl, rfl, h0, r0⟩ := trodAll_cons hA
  obtain ⟨rfl, rfl, rfl⟩ := trodAll_nil r0
  obtain rfl : args = #[v0] := by cases args; simp_all
  obtain ⟨rfl, rfl⟩ := trodVars_none hV
  obtain ⟨a0, rfl, rfl, rfl, w0⟩ := open_string Tryz.underlying9 (hval 0 9 v0 rfl rfl) h0
  clear hA0 hval0
  refine (parses_walk a0 W (std_of_laid hL hSh) w0).mono fun e W' ⟨he, bel⟩ => ?_
  subst he
  exact ⟨_, rfl, _, _, _, [], _, [], hW', trodAll_mk1 (shut_bool Tryz.underlying4 _), (trodAll_cons_mk (shut_string Tryz.underlying9 w0) trodAll_mk0), rfl, bel.frame _, fun h => by cases h⟩
end samParses

theorem samParses_holds : Rows.SamParsesSaid :=
  OpenClaim.holds_of_cond 6 Tryz.f6 rfl rfl rfl rfl rfl rfl rfl ⟨rfl, rfl, rfl, rfl, rfl⟩ rfl rfl rfl rfl rfl (by kernel_rfl) Tryz.func6 (by kernel_rfl)
    (of_decide_eq_true (by kernel_rfl)) (by unfold Func.isWrapper; first | (rw [if_pos (by decide +kernel)]; kernel_rfl) | (rw [if_neg (by decide +kernel)]; exact ⟨rfl, rfl⟩))
    (fun os started H enc _ F => by rw [OpenClaim.pre_eq_preRow]; exact samParses.lifted os started H enc F)

theorem samParsesCard_holds : Rows.SamParsesCardSaid :=
  Claim7.holds_tied_plain_at .later [] _ _ _ _
    samParses_holds (fun _ h => by cases h) (by kernel_rfl) (fun _ h => by cases h) samParses_row_tie rfl ⟨rfl, rfl⟩ (by kernel_rfl) rfl
    (fun f fn hf hfn => by
      obtain rfl : f = 6 := Option.some.inj ((show Tryz.prog.funcNamed Rows.samParsesRow.func = some 6 by kernel_rfl).symm.trans hf) |>.symm
      obtain rfl : fn = Tryz.f6 := (Option.some.inj (Tryz.func6.symm.trans hfn)).symm
      exact ⟨by kernel_rfl, fun j t ht => by
        rw [Tryz.params6] at ht
        have hm : t ∈ [9] := by simpa using Array.mem_of_getElem? ht
        have hall : ([9].all fun u => !Tryz.prog.wantsStandIn u) = true := by kernel_rfl
        exact (show Tryz.prog.wantsStandIn t = false by simpa using List.all_eq_true.1 hall t hm)⟩)
    (by kernel_rfl)
end Go.Proofs.YtdhphipdpjhhbaaGreatDoor
