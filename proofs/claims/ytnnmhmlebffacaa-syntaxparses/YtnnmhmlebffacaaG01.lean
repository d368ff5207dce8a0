/-
  Tokens in memory; rows that a call owns: what a store, an append, a call leaves of them. Expressions, items and the parser in memory; a world that is as it was but for one block.
-/
import Derived.Test.YtnnmhmlebffacaaProg
import Derived.WalkKit
import Derived.WalkSmall
import Derived.BigQuiet
import Derived.Deep.QuietTactic
import Derived.Lib.AppendStr
import Derived.Lib.OthersKept
import Derived.Test.YtnnmhmlebffacaaG00
namespace Go.Proofs.Ytnnmhmlebffacaa
open Go.RowKit

theorem ret_int {k : IntKind} {a b : Int} (h : a = b) : Ending.returned (.int k a) = .returned (.int k b) := by rw [h]
theorem ret_bool {a b : Bool} (h : a = b) : Ending.returned (.bool a) = .returned (.bool b) := by rw [h]
theorem byte_ext {a b : ByteArray} (h : a.data.toList = b.data.toList) : a = b := by
  cases a; cases b; simp at h; subst h; rfl
theorem size_toList (s : ByteArray) : s.data.toList.length = s.size := by simp
theorem mk_list (l : List UInt8) : (⟨l.toArray⟩ : ByteArray).data.toList = l := by simp
theorem mk_size (l : List UInt8) : (⟨l.toArray⟩ : ByteArray).size = l.length := by simp [ByteArray.size]
theorem getElem?_at (s : ByteArray) (k : Nat) (h : k < s.size) : s.data.toList[k]? = some s[k] := by
  rw [List.getElem?_eq_getElem (by rw [size_toList]; exact h)]
  rfl
theorem info48 : (Try.prog.info? 48).map (fun i => (i.zero, i.size, i.bytes)) = some (some (.agg #[.int .i64 0, .int .i64 0, .string ByteArray.empty, .int .i64 0]), 4, 40) := by kernel_rfl
def bs (l : List UInt8) : ByteArray := ⟨l.toArray⟩
theorem bs_list (l : List UInt8) : (bs l).data.toList = l := by simp [bs]
theorem bs_size (l : List UInt8) : (bs l).size = l.length := by simp [bs, ByteArray.size]
theorem bs_of (s : ByteArray) : bs s.data.toList = s := byte_ext (by rw [bs_list])
theorem bs_toList (l : List UInt8) : (bs l).toList = l := by rw [ByteArray.toList_eq, bs_list]
def tkAgg (t : Tk) : Value := .agg #[.int .i64 t.kind, .int .i64 t.num, .string (bs t.text), .int .i64 (t.pl : Int)]
def tkCells (t : Tk) : List Value := [.int .i64 t.kind, .int .i64 t.num, .string (bs t.text), .int .i64 (t.pl : Int)]
theorem tk_len (t : Tk) : (tkCells t).length = 4 := rfl
/-- Its numbers are numbers of the machine. -/
structure TkOk (t : Tk) : Prop where
  kind : -10 ≤ t.kind ∧ t.kind ≤ 10
  num : 0 ≤ t.num ∧ t.num ≤ 72057594037927936
  text : t.text.length ≤ 4000
  pl : t.pl ≤ 4000
/-- A slice of tokens that can be read in a world. -/
structure TksAt (w : World) (ao : Option Addr) (len : Nat) (l : List Tk) : Prop where
  length : l.length = len
  short : len ≤ maxLen
  fits : ∀ t ∈ l, TkOk t
  cells : 0 < len → ∃ b off, ao = some ⟨b, off, none⟩ ∧ ∀ i t, l[i]? = some t → w.cell? ⟨b, off + i * 4, none⟩ = some (.int .i64 t.kind) ∧ w.cell? ⟨b, off + i * 4 + 1, none⟩ = some (.int .i64 t.num) ∧ w.cell? ⟨b, off + i * 4 + 2, none⟩ = some (.string (bs t.text)) ∧ w.cell? ⟨b, off + i * 4 + 3, none⟩ = some (.int .i64 (t.pl : Int))
theorem TksAt.below {w w' : World} {ao : Option Addr} {len : Nat} {l : List Tk} (h : TksAt w ao len l) (hb : Below w.heap.size w w') : TksAt w' ao len l := by
  refine ⟨h.length, h.short, h.fits, fun h0 => ?_⟩
  obtain ⟨b, off, e, hc⟩ := h.cells h0
  refine ⟨b, off, e, fun i q hi => ?_⟩
  obtain ⟨h1, h2, h3, h4⟩ := hc i q hi
  refine ⟨?_, ?_, ?_, ?_⟩
  · rw [hb.cell (World.block_lt_of_cell? w _ h1)]; exact h1
  · rw [hb.cell (World.block_lt_of_cell? w _ h2)]; exact h2
  · rw [hb.cell (World.block_lt_of_cell? w _ h3)]; exact h3
  · rw [hb.cell (World.block_lt_of_cell? w _ h4)]; exact h4
def rowCells (l : List Tk) : List Value := l.flatMap tkCells
theorem rowCells_length (l : List Tk) : (rowCells l).length = l.length * 4 := by
  induction l with
  | nil => rfl
  | cons q r ih => simp only [rowCells, List.flatMap_cons, List.length_append, List.length_cons] at ih ⊢; rw [ih, tk_len]; omega
theorem rowCells_snoc (l : List Tk) (q : Tk) : rowCells (l ++ [q]) = rowCells l ++ tkCells q := by simp [rowCells]
theorem flat_get {α : Type} {f : α → List Value} {s : Nat} (h : ∀ a, (f a).length = s) : ∀ (l : List α) (i : Nat) (a : α) (j : Nat) (u : Value), l[i]? = some a → (f a)[j]? = some u → (l.flatMap f)[i * s + j]? = some u
  | [], i, a, j, u, hi, _ => by simp at hi
  | b :: r, 0, a, j, u, hi, hj => by
    simp at hi; subst hi
    have hlt : j < (f b).length := (List.getElem?_eq_some_iff.1 hj).1
    rw [List.flatMap_cons, Nat.zero_mul, Nat.zero_add, List.getElem?_append_left hlt]; exact hj
  | b :: r, i + 1, a, j, u, hi, hj => by
    have e : (i + 1) * s + j = s + (i * s + j) := by rw [Nat.add_mul, Nat.one_mul]; omega
    rw [List.flatMap_cons, List.getElem?_append_right (by rw [h b]; omega), h b, e, Nat.add_sub_cancel_left]
    exact flat_get h r i a j u (by simpa using hi) hj
theorem flat_set {α : Type} {f : α → List Value} {s : Nat} (h : ∀ a, (f a).length = s) : ∀ (l : List α) (i : Nat) (a b : α) (j : Nat) (u : Value), l[i]? = some a → j < s → (f a).set j u = f b → (l.flatMap f).set (i * s + j) u = (l.set i b).flatMap f
  | [], i, a, b, j, u, hi, _, _ => by simp at hi
  | c :: r, 0, a, b, j, u, hi, hj, he => by
    simp at hi; subst hi
    rw [List.flatMap_cons, Nat.zero_mul, Nat.zero_add, List.set_append_left _ _ (by rw [h c]; exact hj), he]; rfl
  | c :: r, i + 1, a, b, j, u, hi, hj, he => by
    have e : (i + 1) * s + j = s + (i * s + j) := by rw [Nat.add_mul, Nat.one_mul]; omega
    rw [List.flatMap_cons, List.set_append_right _ _ (by rw [h c]; omega), h c, e, Nat.add_sub_cancel_left, flat_set h r i a b j u (by simpa using hi) hj he]; rfl
theorem tk_oneCell (q : Tk) : ∀ u ∈ tkCells q, u.oneCell' = true := by
  intro u hu
  simp [tkCells] at hu
  rcases hu with rfl | rfl | rfl | rfl <;> rfl
theorem owned_shape {w : World} {base : Nat} {e : TypeId} {size : Nat} {v : Value} {n : Nat} {xs : List Value} (h : w.ownsRow base e size v n xs) : ∃ ao cap, v = .slice ao n cap := by
  rcases h.2 with ⟨rfl, rfl⟩ | ⟨g, cap, _, rfl, _⟩
  · exact ⟨none, 0, rfl⟩
  · exact ⟨some ⟨g, 0, none⟩, cap, rfl⟩
theorem lt_block {w : World} {g : Nat} {o : Obj} (h : w.heap[g]? = some o) : g < w.heap.size := (Array.getElem?_eq_some_iff.1 h).1
/-- A row stays owned where its block stays as it is. -/
theorem owned_of_block {w w' : World} {base : Nat} {e : TypeId} {size : Nat} {v : Value} {n : Nat} {xs : List Value} (h : w.ownsRow base e size v n xs)
    (hk : ∀ g cur, v.ownBlock = some g → w.heap[g]? = some (.cells cur e (0, 0)) → w'.heap[g]? = w.heap[g]?) : w'.ownsRow base e size v n xs := by
  refine ⟨h.1, ?_⟩
  rcases h.2 with hn | ⟨g, cap, cur, hv, hb, hg, rest⟩
  · exact .inl hn
  · exact .inr ⟨g, cap, cur, hv, hb, by rw [hk g cur (by rw [hv]; rfl) hg]; exact hg, rest⟩
theorem owned_setOther {w : World} {base : Nat} {e t : TypeId} {size : Nat} {v : Value} {n : Nat} {xs : List Value} (h : w.ownsRow base e size v n xs) {b i : Nat} {cs : Array Value} {f : Nat × Nat}
    (hb : w.heap[b]? = some (.cells cs t f)) (hne : e ≠ t) (u : Value) : (w.setCell ⟨b, i, none⟩ u).ownsRow base e size v n xs :=
  owned_of_block h fun g cur _ hg => Below.heap_setCell w _ u g (fun e' => by
    have e'' : g = b := e'
    rw [e''] at hg; rw [hb] at hg; cases hg; exact hne rfl)
theorem owned_below {w w' : World} {base : Nat} {e : TypeId} {size : Nat} {v : Value} {n : Nat} {xs : List Value} (h : w.ownsRow base e size v n xs) (hb : Below w.heap.size w w') : w'.ownsRow base e size v n xs :=
  owned_of_block h fun g _ _ hg => hb.block g (lt_block hg)
theorem owned_grown {w w' : World} {base : Nat} {e t : TypeId} {size : Nat} {v : Value} {n : Nat} {xs : List Value} (h : w.ownsRow base e size v n xs) {v2 : Value} {n2 : Nat} {xs2 : List Value} {base2 size2 : Nat}
    (h2 : w.ownsRow base2 t size2 v2 n2 xs2) (hne : e ≠ t) (hg : w.grownBy w' v2.ownBlock) : w'.ownsRow base e size v n xs :=
  owned_of_block h fun g cur _ hc => hg.block g (lt_block hc) (fun e' => by
    rcases h2.2 with ⟨hv, _⟩ | ⟨g', cap', cur', hv, _, hg', _⟩
    · rw [hv] at e'; cases e'
    · rw [hv] at e'; simp [Value.ownBlock] at e'; subst e'; rw [hg'] at hc; cases hc; exact hne rfl)
theorem owned_set {w : World} {base : Nat} {e : TypeId} {size : Nat} {g n cap : Nat} {xs : List Value} (h : w.ownsRow base e size (.slice (some ⟨g, 0, none⟩) n cap) n xs) (j : Nat) (u : Value) :
    (w.setCell ⟨g, j, none⟩ u).ownsRow base e size (.slice (some ⟨g, 0, none⟩) n cap) n (xs.set j u) := by
  refine ⟨by simp [h.1], ?_⟩
  rcases h.2 with ⟨hv, _⟩ | ⟨g', cap', cur, hv, hb, hg, h1, h2, h3, h4⟩
  · cases hv
  · cases hv
    exact .inr ⟨g, cap, cur.setIfInBounds j u, rfl, hb, heap_setCell_same w g j cur e u hg, h1, h2, by simp [h3], by simp [List.take_set, h4]⟩
theorem owned_cells {w : World} {base : Nat} {e : TypeId} {size : Nat} {g n cap : Nat} {xs : List Value} (h : w.ownsRow base e size (.slice (some ⟨g, 0, none⟩) n cap) n xs) (j : Nat) (u : Value) (hj : xs[j]? = some u) :
    w.cell? ⟨g, j, none⟩ = some u ∧ w.frozen? ⟨g, j, none⟩ = false := by
  rcases h.2 with ⟨hv, _⟩ | ⟨g', cap', cur, hv, hb, hg, h1, h2, h3, h4⟩
  · cases hv
  · cases hv
    refine ⟨?_, frozen_of_row w g j cur e hg⟩
    rw [cell_of_row w g j cur e (0, 0) hg]
    rw [← h4] at hj
    have h5 : j < (cur.toList.take (n * size)).length := (List.getElem?_eq_some_iff.1 hj).1
    have h6 : j < n * size := by simp at h5; omega
    rw [List.getElem?_take_of_lt h6] at hj
    simpa using hj
theorem owned_tk {w : World} {base g n cap : Nat} {l : List Tk} (h : w.ownsRow base 48 4 (.slice (some ⟨g, 0, none⟩) n cap) n (rowCells l)) {k : Nat} {t : Tk} (hk : l[k]? = some t) :
    w.cell? ⟨g, k * 4, none⟩ = some (.int .i64 t.kind) ∧ w.cell? ⟨g, k * 4 + 1, none⟩ = some (.int .i64 t.num) ∧ w.cell? ⟨g, k * 4 + 2, none⟩ = some (.string (bs t.text)) ∧ w.cell? ⟨g, k * 4 + 3, none⟩ = some (.int .i64 (t.pl : Int)) := by
  have hc : ∀ j u, (tkCells t)[j]? = some u → w.cell? ⟨g, k * 4 + j, none⟩ = some u := fun j u hu => (owned_cells h _ _ (flat_get tk_len l k t j u hk hu)).1
  exact ⟨hc 0 _ rfl, hc 1 _ rfl, hc 2 _ rfl, hc 3 _ rfl⟩
theorem owned_tks {w : World} {base : Nat} {ao : Option Addr} {n cap : Nat} {l : List Tk} (h : w.ownsRow base 48 4 (.slice ao n cap) n (rowCells l)) (hf : ∀ r ∈ l, TkOk r) : TksAt w ao n l := by
  have hl : l.length = n := by have := h.1; rw [rowCells_length] at this; omega
  rcases h.2 with ⟨hv, rfl⟩ | ⟨g, cap', cur, hv, hb, hg, h1, h2, h3, h4⟩
  · exact ⟨hl, by decide, hf, fun h0 => absurd h0 (by omega)⟩
  · cases hv
    refine ⟨hl, by omega, hf, fun _ => ⟨g, 0, rfl, fun i q hi => ?_⟩⟩
    simp only [Nat.zero_add]
    exact owned_tk h hi
theorem owned_some {w : World} {base : Nat} {v : Value} {n : Nat} {e : TypeId} {size : Nat} {xs : List Value} (h : w.ownsRow base e size v n xs) (hn : 0 < n) : ∃ g cap, v = .slice (some ⟨g, 0, none⟩) n cap ∧ base ≤ g ∧ n ≤ cap ∧ n ≤ maxLen ∧ g < w.heap.size := by
  rcases h.2 with ⟨_, h0⟩ | ⟨g, cap, cur, hv, hb, hg, h1, h2, h3, h4⟩
  · omega
  · exact ⟨g, cap, hv, hb, h1, by omega, lt_block hg⟩
theorem owned_none {w : World} {base : Nat} {ao : Option Addr} {n cap : Nat} {e : TypeId} {size : Nat} {xs : List Value} (h : w.ownsRow base e size (.slice ao n cap) n xs) : w.ownsRow base e size (.slice ao 0 cap) 0 [] := by
  refine ⟨by simp, ?_⟩
  rcases h.2 with ⟨hv, rfl⟩ | ⟨g, cap', cur, hv, hb, hg, h1, h2, h3, h4⟩
  · cases hv; exact .inl ⟨rfl, rfl⟩
  · cases hv; exact .inr ⟨g, cap, cur, rfl, hb, hg, Nat.zero_le _, h2, h3, by simp⟩

theorem owned_base {w : World} {b b' : Nat} {e : TypeId} {size : Nat} {v : Value} {n : Nat} {xs : List Value} (h : w.ownsRow b e size v n xs) (hb : b' ≤ b) : w.ownsRow b' e size v n xs := by
  refine ⟨h.1, ?_⟩
  rcases h.2 with hn | ⟨g, cap, cur, hv, h1, rest⟩
  · exact .inl hn
  · exact .inr ⟨g, cap, cur, hv, by omega, rest⟩
theorem owned_none_nil (w : World) (B : Nat) : w.ownsRow B 48 4 (.slice none 0 0) ([] : List Tk).length (rowCells []) := World.ownsRow_nil _ _ _ _
theorem below_append {B n : Nat} {e : TypeId} {size : Nat} {v : Value} {xs : List Value} {w w3 : World} (hown : w.ownsRow B e size v n xs) (hB : B ≤ w.heap.size) {o : Obj} (hg : (w.alloc o).grownBy w3 v.ownBlock) : Below B w w3 :=
  Below.grown ((Below.refl _ _).alloc hB o) hg (by simp; omega) (fun j hj => (hown.lt _ hj).1)
end Go.Proofs.Ytnnmhmlebffacaa
namespace Go.Proofs.Ytnnmhmlebffacaa
open Go.RowKit Go.Deep

/-- As it was, but for one block. -/
structure Kp (b : Nat) (w w' : World) : Prop where
  os : w'.os = w.os
  tape : w'.tape = w.tape
  output : w'.output = w.output
  size : w.heap.size ≤ w'.heap.size
  block : ∀ g, g < w.heap.size → g ≠ b → w'.heap[g]? = w.heap[g]?
theorem Kp.refl (b : Nat) (w : World) : Kp b w w := ⟨rfl, rfl, rfl, Nat.le_refl _, fun _ _ _ => rfl⟩
theorem Kp.trans {b : Nat} {w w1 w2 : World} (h : Kp b w w1) (k : Kp b w1 w2) : Kp b w w2 :=
  ⟨k.os.trans h.os, k.tape.trans h.tape, k.output.trans h.output, Nat.le_trans h.size k.size, fun g hg hb => (k.block g (Nat.lt_of_lt_of_le hg h.size) hb).trans (h.block g hg hb)⟩
theorem Kp.of_below {b : Nat} {w w' : World} (h : Below w.heap.size w w') : Kp b w w' := ⟨h.os, h.tape, h.output, h.size, fun g hg _ => h.block g hg⟩
theorem Kp.then_below {b : Nat} {w w1 w2 : World} (h : Kp b w w1) (k : Below w1.heap.size w1 w2) : Kp b w w2 := h.trans (Kp.of_below k)
theorem Kp.below {b B : Nat} {w w' : World} (h : Kp b w w') (hB : B ≤ b) (hs : B ≤ w.heap.size) : Below B w w' := ⟨h.os, h.tape, h.output, h.size, fun g hg => h.block g (by omega) (by omega)⟩
theorem Kp.setCell {b : Nat} {w w1 : World} (h : Kp b w w1) (i : Nat) (u : Value) : Kp b w (w1.setCell ⟨b, i, none⟩ u) :=
  h.trans ⟨rfl, rfl, rfl, by simp [World.setCell], fun g _ hb => Below.heap_setCell w1 _ u g hb⟩
theorem Kp.setNew {b g : Nat} {w w1 : World} (h : Kp b w w1) (hg : w.heap.size ≤ g) (i : Nat) (u : Value) : Kp b w (w1.setCell ⟨g, i, none⟩ u) :=
  ⟨h.os, h.tape, h.output, by simpa [World.setCell] using h.size, fun k hk hb => by rw [Below.heap_setCell w1 _ u k (by show k ≠ g; omega)]; exact h.block k hk hb⟩
theorem Kp.alloc {b : Nat} {w w1 : World} (h : Kp b w w1) (o : Obj) : Kp b w (w1.alloc o) := h.then_below ((Below.refl _ _).alloc (Nat.le_refl _) o)
theorem Kp.drew {b : Nat} {w w1 : World} (h : Kp b w w1) : Kp b w w1.drew := h.then_below (Below.refl _ _).drew
theorem Kp.cell {b : Nat} {w w' : World} (h : Kp b w w') {p : Addr} {u : Value} (hp : p.block ≠ b) (hc : w.cell? p = some u) : w'.cell? p = some u := by
  rw [World.cell?_of_block (w := w) (h.block p.block (World.block_lt_of_cell? w _ hc) hp)]; exact hc
theorem Kp.grown {b : Nat} {w w1 w2 : World} {row : Option Nat} (h : Kp b w w1) (hg : w1.grownBy w2 row) (hr : ∀ k, row = some k → w.heap.size ≤ k) : Kp b w w2 := by
  have h1 : Below w.heap.size w1 w2 := Below.grown (Below.refl _ _) hg h.size hr
  exact ⟨h1.os.trans h.os, h1.tape.trans h.tape, h1.output.trans h.output, Nat.le_trans h.size h1.size, fun g hk hb => (h1.block g hk).trans (h.block g hk hb)⟩

def InR (z : Int) : Prop := -9223372036854775808 ≤ z ∧ z ≤ 9223372036854775807
structure HdOk (h : Hd) : Prop where
  kind : InR h.kind
  num : InR h.num
  text : h.text.length ≤ maxLen
  pl : InR h.pl
def exV (h : Hd) (ka : Option Addr) (kn kc : Nat) : Value := .agg #[.int .i64 h.kind, .int .i64 h.num, .string (bs h.text), .slice ka kn kc, .int .i64 h.pl]
def exCells (h : Hd) (ka : Option Addr) (kn kc : Nat) : List Value := [.int .i64 h.kind, .int .i64 h.num, .string (bs h.text), .slice ka kn kc, .int .i64 h.pl]
def CellsAt (w : World) (g off : Nat) (l : List Value) : Prop := ∀ i u, l[i]? = some u → w.cell? ⟨g, off + i, none⟩ = some u
theorem CellsAt.of_heap {w : World} {g off : Nat} {l : List Value} {w' : World} (h : CellsAt w g off l) (hb : w'.heap[g]? = w.heap[g]?) : CellsAt w' g off l := fun i u hi => by
  rw [World.cell?_of_block (w := w) (a := ⟨g, off + i, none⟩) hb]; exact h i u hi
/-- A list of expressions in memory; 'o': in blocks that hold expressions alone and may be written. -/
def FoAt (o : Bool) (S : Nat → Prop) (w : World) : Fo → Option Addr → Nat → Prop
  | .nil, _, n => n = 0
  | .node _ _ h k r, ao, n => ∃ g off ka kn kc m, n = m + 1 ∧ ao = some ⟨g, off, none⟩ ∧ S g ∧ (o = true → off % 5 = 0 ∧ ∃ cs, w.heap[g]? = some (.cells cs 35 (0, 0))) ∧ HdOk h ∧ kn ≤ maxLen ∧
      CellsAt w g off (exCells h ka kn kc) ∧ FoAt o S w k ka kn ∧ FoAt o S w r (some ⟨g, off + 5, none⟩) m
theorem foAt_len {o : Bool} {S : Nat → Prop} {w : World} : ∀ {F : Fo} {ao : Option Addr} {n : Nat}, FoAt o S w F ao n → n = lenF F
  | .nil, _, _, h => h
  | .node _ _ _ _ r, _, _, h => by
    obtain ⟨g, off, ka, kn, kc, m, hn, _, _, _, _, _, _, _, hr⟩ := h
    rw [hn, foAt_len hr]; rfl
theorem foAt_keep {o : Bool} {S : Nat → Prop} {w w' : World} (hk : ∀ g, g < w.heap.size → S g → w'.heap[g]? = w.heap[g]?) : ∀ {F : Fo} {ao : Option Addr} {n : Nat}, FoAt o S w F ao n → FoAt o S w' F ao n
  | .nil, _, _, h => h
  | .node _ _ h k r, ao, n, hh => by
    obtain ⟨g, off, ka, kn, kc, m, hn, ha, hB, ho, hok, hkn, hc, hk1, hr⟩ := hh
    have hlt : g < w.heap.size := World.block_lt_of_cell? w _ (hc 0 _ rfl)
    have he := hk g hlt hB
    exact ⟨g, off, ka, kn, kc, m, hn, ha, hB, fun e => ⟨(ho e).1, by rw [he]; exact (ho e).2⟩, hok, hkn, hc.of_heap he, foAt_keep hk hk1, foAt_keep hk hr⟩
theorem FoAt.kp {o : Bool} {b : Nat} {S : Nat → Prop} {w w' : World} {F : Fo} {ao : Option Addr} {n : Nat} (h : FoAt o S w F ao n) (hk : Kp b w w') (hB : ¬ S b) : FoAt o S w' F ao n :=
  foAt_keep (fun g hg hb => hk.block g hg (fun e => hB (e ▸ hb))) h
theorem FoAt.below {o : Bool} {S : Nat → Prop} {w w' : World} {F : Fo} {ao : Option Addr} {n : Nat} (h : FoAt o S w F ao n) (hk : Below w.heap.size w w') : FoAt o S w' F ao n :=
  foAt_keep (fun g hg _ => hk.block g hg) h
theorem FoAt.base {o : Bool} {S S' : Nat → Prop} {w : World} (hB : ∀ g, g < w.heap.size → S g → S' g) : ∀ {F : Fo} {ao : Option Addr} {n : Nat}, FoAt o S w F ao n → FoAt o S' w F ao n
  | .nil, _, _, h => h
  | .node _ _ h k r, ao, n, hh => by
    obtain ⟨g, off, ka, kn, kc, m, hn, ha, hg, ho, hok, hkn, hc, hk1, hr⟩ := hh
    exact ⟨g, off, ka, kn, kc, m, hn, ha, hB g (World.block_lt_of_cell? w _ (hc 0 _ rfl)) hg, ho, hok, hkn, hc, FoAt.base hB hk1, FoAt.base hB hr⟩
theorem FoAt.loose {S : Nat → Prop} {w : World} : ∀ {F : Fo} {ao : Option Addr} {n : Nat}, FoAt true S w F ao n → FoAt false S w F ao n
  | .nil, _, _, h => h
  | .node _ _ h k r, ao, n, hh => by
    obtain ⟨g, off, ka, kn, kc, m, hn, ha, hg, ho, hok, hkn, hc, hk1, hr⟩ := hh
    exact ⟨g, off, ka, kn, kc, m, hn, ha, hg, (fun e => by cases e), hok, hkn, hc, FoAt.loose hk1, FoAt.loose hr⟩

/-- An expression as a value, its Kids in memory. -/
structure ExAt (o : Bool) (S : Nat → Prop) (w : World) (e : Ex) (ka : Option Addr) (kn : Nat) : Prop where
  hd : HdOk e.1
  few : kn ≤ maxLen
  kids : FoAt o S w e.2 ka kn
theorem ExAt.kp {o : Bool} {b : Nat} {S : Nat → Prop} {w w' : World} {e : Ex} {ka : Option Addr} {kn : Nat} (h : ExAt o S w e ka kn) (hk : Kp b w w') (hB : ¬ S b) : ExAt o S w' e ka kn := ⟨h.hd, h.few, h.kids.kp hk hB⟩
theorem ExAt.below {o : Bool} {S : Nat → Prop} {w w' : World} {e : Ex} {ka : Option Addr} {kn : Nat} (h : ExAt o S w e ka kn) (hk : Below w.heap.size w w') : ExAt o S w' e ka kn := ⟨h.hd, h.few, h.kids.below hk⟩

theorem ExAt.base {o : Bool} {S S' : Nat → Prop} {w : World} {e : Ex} {ka : Option Addr} {kn : Nat} (h : ExAt o S w e ka kn) (hB : ∀ g, g < w.heap.size → S g → S' g) : ExAt o S' w e ka kn := ⟨h.hd, h.few, h.kids.base hB⟩
theorem ExAt.keep {o : Bool} {S : Nat → Prop} {w w' : World} {e : Ex} {ka : Option Addr} {kn : Nat} (h : ExAt o S w e ka kn) (hk : ∀ g, g < w.heap.size → S g → w'.heap[g]? = w.heap[g]?) : ExAt o S w' e ka kn := ⟨h.hd, h.few, foAt_keep hk h.kids⟩
/-- A row of expressions with their slices. -/
abbrev Xs := Ex × Option Addr × Nat × Nat
def xsCells (x : Xs) : List Value := exCells x.1.1 x.2.1 x.2.2.1 x.2.2.2
theorem xs_len (x : Xs) : (xsCells x).length = 5 := rfl
theorem xs_one (x : Xs) : ∀ u ∈ xsCells x, u.oneCell' = true := by
  intro u hu
  simp [xsCells, exCells] at hu
  rcases hu with rfl | rfl | rfl | rfl | rfl <;> rfl
def xRow (l : List Xs) : List Value := l.flatMap xsCells
theorem xRow_length (l : List Xs) : (xRow l).length = l.length * 5 := by
  induction l with
  | nil => rfl
  | cons q r ih => simp only [xRow, List.flatMap_cons, List.length_append, List.length_cons] at ih ⊢; rw [ih, xs_len]; omega
theorem xRow_snoc (l : List Xs) (q : Xs) : xRow (l ++ [q]) = xRow l ++ xsCells q := by simp [xRow]
/-- A list laid in one block. -/
theorem foAt_row {o : Bool} {S : Nat → Prop} {g : Nat} {w : World} (hB : S g) {cs : Array Value} (hg : w.heap[g]? = some (.cells cs 35 (0, 0))) : ∀ (l : List Xs) (off : Nat), (o = true → off % 5 = 0) → (∀ i u, (xRow l)[i]? = some u → cs[off + i]? = some u) →
    (∀ x ∈ l, ExAt o S w x.1 x.2.1 x.2.2.1) → FoAt o S w (ofL (l.map (·.1))) (some ⟨g, off, none⟩) l.length
  | [], off, _, _, _ => rfl
  | x :: r, off, h5, hc, hx => by
    have hx0 := hx x (by simp)
    refine ⟨g, off, x.2.1, x.2.2.1, x.2.2.2, r.length, rfl, rfl, hB, fun e => ⟨h5 e, cs, hg⟩, hx0.hd, hx0.few, fun i u hi => ?_, hx0.kids, ?_⟩
    · rw [cell_of_row w g (off + i) cs 35 (0, 0) hg]
      have hi' : (xsCells x)[i]? = some u := hi
      exact hc i u (by rw [xRow, List.flatMap_cons, List.getElem?_append_left (List.getElem?_eq_some_iff.1 hi').1]; exact hi')
    · refine foAt_row hB hg r (off + 5) (fun e => by have := h5 e; omega) (fun i u hi => ?_) fun y hy => hx y (by simp [hy])
      have := hc (5 + i) u (by rw [xRow, List.flatMap_cons, List.getElem?_append_right (by rw [xs_len]; omega), xs_len, Nat.add_sub_cancel_left]; exact hi)
      rw [show off + 5 + i = off + (5 + i) by omega]; exact this
/-- An owned row of expressions as a list. -/
theorem foAt_owned {o : Bool} {S : Nat → Prop} {B : Nat} {w : World} {ao : Option Addr} {n cap : Nat} {l : List Xs} (hS : ∀ g, some g = (Value.slice ao n cap).ownBlock → B ≤ g → S g) (h : w.ownsRow B 35 5 (.slice ao n cap) n (xRow l)) (hx : ∀ x ∈ l, ExAt o S w x.1 x.2.1 x.2.2.1) : FoAt o S w (ofL (l.map (·.1))) ao n ∧ n = l.length := by
  have hl : n = l.length := by have := h.1; rw [xRow_length] at this; omega
  refine ⟨?_, hl⟩
  rcases h.2 with ⟨hv, h0⟩ | ⟨g, cap', cur, hv, hb, hg, h1, h2, h3, h4⟩
  · subst h0
    have : l = [] := List.eq_nil_of_length_eq_zero hl.symm
    subst this; rfl
  · cases hv
    rw [hl]
    refine foAt_row (hS g rfl hb) hg l 0 (fun _ => rfl) (fun i u hi => ?_) hx
    rw [← h4] at hi
    have h5 : i < (cur.toList.take (n * 5)).length := (List.getElem?_eq_some_iff.1 hi).1
    have h6 : i < n * 5 := by simp at h5; omega
    rw [List.getElem?_take_of_lt h6] at hi
    simpa using hi
/-- The parser's block: its tokens, where it stands, its fault. -/
structure PAt (b : Nat) (ta : Option Addr) (tn tc : Nat) (T l : List Tk) (f : Int × Int) (w : World) : Prop where
  block : ∃ k, T.drop k = l ∧ k < T.length ∧ w.heap[b]? = some (.cells #[.slice ta tn tc, .int .i64 (k : Int), .int .i64 f.1, .int .i64 f.2] 52 (0, 0))
  toks : TksAt w ta tn T
  low : ∀ x, ta = some x → x.block < b
  last : ∃ T' e, T = T' ++ [e] ∧ e.kind = 1
  few : T.length ≤ 4001
theorem TksAt.keep {w w' : World} {ao : Option Addr} {len : Nat} {l : List Tk} (h : TksAt w ao len l) (hk : ∀ x, ao = some x → w'.heap[x.block]? = w.heap[x.block]?) : TksAt w' ao len l := by
  refine ⟨h.length, h.short, h.fits, fun h0 => ?_⟩
  obtain ⟨g, off, e, hc⟩ := h.cells h0
  have hh : w'.heap[g]? = w.heap[g]? := hk _ e
  refine ⟨g, off, e, fun i q hi => ?_⟩
  obtain ⟨h1, h2, h3, h4⟩ := hc i q hi
  exact ⟨by rw [World.cell?_of_block (w := w) (a := ⟨g, _, none⟩) hh]; exact h1, by rw [World.cell?_of_block (w := w) (a := ⟨g, _, none⟩) hh]; exact h2, by rw [World.cell?_of_block (w := w) (a := ⟨g, _, none⟩) hh]; exact h3, by rw [World.cell?_of_block (w := w) (a := ⟨g, _, none⟩) hh]; exact h4⟩
theorem TksAt.kp {b : Nat} {w w' : World} {ao : Option Addr} {len : Nat} {l : List Tk} (h : TksAt w ao len l) (hlow : ∀ x, ao = some x → x.block < b) (hb : Kp b w w') : TksAt w' ao len l := by
  refine ⟨h.length, h.short, h.fits, fun h0 => ?_⟩
  obtain ⟨g, off, e, hc⟩ := h.cells h0
  have hne : g ≠ b := by have : g < b := hlow _ e; omega
  refine ⟨g, off, e, fun i q hi => ?_⟩
  obtain ⟨h1, h2, h3, h4⟩ := hc i q hi
  exact ⟨hb.cell hne h1, hb.cell hne h2, hb.cell hne h3, hb.cell hne h4⟩
section
variable {b : Nat} {ta : Option Addr} {tn tc : Nat} {T l : List Tk} {f : Int × Int} {w w' : World}
theorem PAt.lt (h : PAt b ta tn tc T l f w) : b < w.heap.size := by
  obtain ⟨k, _, _, hb⟩ := h.block
  exact lt_block hb
theorem PAt.below (h : PAt b ta tn tc T l f w) (hb : Below w.heap.size w w') : PAt b ta tn tc T l f w' := by
  obtain ⟨k, h1, h2, h3⟩ := h.block
  exact ⟨⟨k, h1, h2, by rw [hb.block b h.lt]; exact h3⟩, h.toks.below hb, h.low, h.last, h.few⟩
theorem PAt.kp (h : PAt b ta tn tc T l f w) (hk : Kp b w w') {l' : List Tk} {f' : Int × Int} {k : Nat} (h1 : T.drop k = l') (h2 : k < T.length) (h3 : w'.heap[b]? = some (.cells #[.slice ta tn tc, .int .i64 (k : Int), .int .i64 f'.1, .int .i64 f'.2] 52 (0, 0))) : PAt b ta tn tc T l' f' w' :=
  ⟨⟨k, h1, h2, h3⟩, h.toks.kp h.low hk, h.low, h.last, h.few⟩
theorem PAt.here1 (h : PAt b ta tn tc T l f w) : ∃ t r, l = t :: r := by
  obtain ⟨k, h1, h2, _⟩ := h.block
  cases l with
  | nil => have := congrArg List.length h1; simp at this; omega
  | cons t r => exact ⟨t, r, rfl⟩
/-- Behind a token that is not the end there is another. -/
theorem PAt.more {t : Tk} {r : List Tk} (h : PAt b ta tn tc T (t :: r) f w) (ht : t.kind ≠ 1) {k : Nat} (hk : T.drop k = t :: r) : T.drop (k + 1) = r ∧ k + 1 < T.length := by
  have h1 : T.drop (k + 1) = r := by rw [← List.drop_drop, hk]; rfl
  refine ⟨h1, ?_⟩
  obtain ⟨T', e, hT, he⟩ := h.last
  have hlen := congrArg List.length hk
  simp at hlen
  cases r with
  | nil =>
    exfalso
    simp at hlen
    have hT2 := congrArg List.length hT
    simp at hT2
    rw [hT, show k = T'.length by omega, List.drop_left] at hk
    have : e = t := by simpa using hk
    rw [this] at he; exact ht he
  | cons q s => simp at hlen; omega
theorem PAt.len (h : PAt b ta tn tc T l f w) : l.length ≤ 4001 := by
  obtain ⟨k, h1, h2, _⟩ := h.block
  have := congrArg List.length h1
  simp at this
  have := h.few
  omega
end
end Go.Proofs.Ytnnmhmlebffacaa
