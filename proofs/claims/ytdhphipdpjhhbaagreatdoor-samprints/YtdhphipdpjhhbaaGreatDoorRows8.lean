/-
  Rows of records and of sequences that are the call's own.
-/
import Derived.Test.YtdhphipdpjhhbaaGreatDoorLent
namespace Go.Proofs.YtdhphipdpjhhbaaGreatDoor
open Go.RowKit

theorem flat_length {α : Type} {f : α → List Value} {s : Nat} (h : ∀ a, (f a).length = s) (l : List α) : (l.flatMap f).length = l.length * s := by
  induction l with
  | nil => simp
  | cons a r ih => rw [List.flatMap_cons, List.length_append, ih, h a, List.length_cons, Nat.add_mul, Nat.one_mul, Nat.add_comm]
theorem flat_get {α : Type} {f : α → List Value} {s : Nat} (h : ∀ a, (f a).length = s) : ∀ (l : List α) (i : Nat) (a : α) (j : Nat) (u : Value), l[i]? = some a → (f a)[j]? = some u → (l.flatMap f)[i * s + j]? = some u
  | [], i, a, j, u, hi, _ => by simp at hi
  | b :: r, 0, a, j, u, hi, hj => by
    simp at hi; subst hi
    have hlt : j < (f b).length := (List.getElem?_eq_some_iff.1 hj).1
    rw [List.flatMap_cons, Nat.zero_mul, Nat.zero_add, List.getElem?_append_left hlt]; exact hj
  | b :: r, i + 1, a, j, u, hi, hj => by
    have e : (i + 1) * s + j = s + (i * s + j) := by rw [Nat.add_mul, Nat.one_mul]; omega
    rw [List.flatMap_cons, List.getElem?_append_right (by rw [h b]; omega), h b, e, Nat.add_sub_cancel_left]
    exact flat_get h r i a j u (by simpa using hi) hj
theorem flat_set {α : Type} {f : α → List Value} {s : Nat} (h : ∀ a, (f a).length = s) : ∀ (l : List α) (i : Nat) (a b : α) (j : Nat) (u : Value), l[i]? = some a → j < s → (f a).set j u = f b → (l.flatMap f).set (i * s + j) u = (l.set i b).flatMap f
  | [], i, a, b, j, u, hi, _, _ => by simp at hi
  | c :: r, 0, a, b, j, u, hi, hj, he => by
    simp at hi; subst hi
    rw [List.flatMap_cons, Nat.zero_mul, Nat.zero_add, List.set_append_left _ _ (by rw [h c]; exact hj), he]; rfl
  | c :: r, i + 1, a, b, j, u, hi, hj, he => by
    have e : (i + 1) * s + j = s + (i * s + j) := by rw [Nat.add_mul, Nat.one_mul]; omega
    rw [List.flatMap_cons, List.set_append_right _ _ (by rw [h c]; omega), h c, e, Nat.add_sub_cancel_left, flat_set h r i a b j u (by simpa using hi) hj he]; rfl
theorem flat_one {α : Type} {f : α → List Value} (h : ∀ a, ∀ u ∈ f a, u.oneCell' = true) (l : List α) : ∀ u ∈ l.flatMap f, u.oneCell' = true := by
  intro u hu
  obtain ⟨q, _, hq⟩ := List.mem_flatMap.1 hu
  exact h q u hq
/-- The cells of n zero values. -/
theorem made_flat {α : Type} {f : α → List Value} {s : Nat} (h : ∀ a, (f a).length = s) (a : α) (z : Array Value) (hz : z.toList = f a) (hs : 0 < s) (n : Nat) : (madeCells z (n * s)).toList = (List.replicate n a).flatMap f := by
  have hzs : z.size = s := by rw [← Array.length_toList, hz, h a]
  apply List.ext_getElem?
  intro i
  by_cases hi : i < n * s
  · have hd : i / s < n := (Nat.div_lt_iff_lt_mul hs).2 hi
    have hm : i % s < s := Nat.mod_lt _ hs
    obtain ⟨u, hu⟩ : ∃ u, (f a)[i % s]? = some u := ⟨_, List.getElem?_eq_getElem (by rw [h a]; exact hm)⟩
    have h1 := flat_get h (List.replicate n a) (i / s) a (i % s) u (by rw [List.getElem?_replicate, if_pos hd]) hu
    rw [Nat.mul_comm, Nat.div_add_mod] at h1
    rw [h1]
    have h2 : z[i % z.size]! = u := by
      rw [hzs]
      have h3 : z[i % s]? = some u := by rw [← Array.getElem?_toList, hz]; exact hu
      rw [getElem!_def, h3]
    simp [madeCells, hi, h2]
  · rw [List.getElem?_eq_none (by simp [madeCells]; omega), List.getElem?_eq_none (by rw [flat_length h]; simp; omega)]

def rvRow (v : RV) : List Value := [.string v.name, .bool v.mapped, .string v.ref, .int .i64 v.pos, .slice v.ao v.len v.cap, .string v.bases, .string v.quals, .int .i64 v.score]
def sqRow (q : Sq) : List Value := [.string q.1, .string q.2.1, .string q.2.2]
def zeroV : RV := ⟨⟨#[]⟩, false, ⟨#[]⟩, 0, none, 0, 0, ⟨#[]⟩, ⟨#[]⟩, 0⟩
def zeroQ : Sq := (⟨#[]⟩, ⟨#[]⟩, ⟨#[]⟩)
theorem rv_len (v : RV) : (rvRow v).length = 8 := rfl
theorem sq_len (q : Sq) : (sqRow q).length = 3 := rfl
theorem rv_one (v : RV) : ∀ u ∈ rvRow v, u.oneCell' = true := by
  intro u hu
  simp [rvRow] at hu
  rcases hu with rfl | rfl | rfl | rfl | rfl | rfl | rfl | rfl <;> rfl
theorem sq_one (q : Sq) : ∀ u ∈ sqRow q, u.oneCell' = true := by
  intro u hu
  simp [sqRow] at hu
  rcases hu with rfl | rfl | rfl <;> rfl
theorem made_rvs (n : Nat) : (madeCells #[.string ⟨#[]⟩, .bool false, .string ⟨#[]⟩, .int .i64 0, .slice none 0 0, .string ⟨#[]⟩, .string ⟨#[]⟩, .int .i64 0] (n * 8)).toList = (List.replicate n zeroV).flatMap rvRow := made_flat rv_len zeroV _ rfl (by decide) n
theorem made_sqs (n : Nat) : (madeCells #[.string ⟨#[]⟩, .string ⟨#[]⟩, .string ⟨#[]⟩] (n * 3)).toList = (List.replicate n zeroQ).flatMap sqRow := made_flat sq_len zeroQ _ rfl (by decide) n
theorem info42 : (Tryz.prog.info? 42).map (fun i => (i.zero, i.size, i.bytes)) = some (some (.agg #[.string ⟨#[]⟩, .string ⟨#[]⟩, .string ⟨#[]⟩]), 3, 48) := by kernel_rfl

/-- The eight cells of one record of a row. -/
theorem rvs_cells {w : World} {base g n cap : Nat} {vs : List RV} (h : w.ownsRow base 24 8 (.slice (some ⟨g, 0, none⟩) n cap) n (vs.flatMap rvRow)) {k : Nat} {v : RV} (hk : vs[k]? = some v) :
    w.cell? ⟨g, k * 8, none⟩ = some (.string v.name) ∧ w.cell? ⟨g, k * 8 + 1, none⟩ = some (.bool v.mapped) ∧ w.cell? ⟨g, k * 8 + 2, none⟩ = some (.string v.ref) ∧ w.cell? ⟨g, k * 8 + 3, none⟩ = some (.int .i64 v.pos) ∧ w.cell? ⟨g, k * 8 + 4, none⟩ = some (.slice v.ao v.len v.cap) ∧ w.cell? ⟨g, k * 8 + 5, none⟩ = some (.string v.bases) ∧ w.cell? ⟨g, k * 8 + 6, none⟩ = some (.string v.quals) ∧ w.cell? ⟨g, k * 8 + 7, none⟩ = some (.int .i64 v.score) := by
  have hc : ∀ j u, (rvRow v)[j]? = some u → w.cell? ⟨g, k * 8 + j, none⟩ = some u := fun j u hu => (owned_cells h _ _ (flat_get rv_len vs k v j u hk hu)).1
  exact ⟨hc 0 _ rfl, hc 1 _ rfl, hc 2 _ rfl, hc 3 _ rfl, hc 4 _ rfl, hc 5 _ rfl, hc 6 _ rfl, hc 7 _ rfl⟩
theorem sqs_cells {w : World} {base g n cap : Nat} {qs : List Sq} (h : w.ownsRow base 42 3 (.slice (some ⟨g, 0, none⟩) n cap) n (qs.flatMap sqRow)) {k : Nat} {q : Sq} (hk : qs[k]? = some q) :
    w.cell? ⟨g, k * 3, none⟩ = some (.string q.1) ∧ w.cell? ⟨g, k * 3 + 1, none⟩ = some (.string q.2.1) ∧ w.cell? ⟨g, k * 3 + 2, none⟩ = some (.string q.2.2) := by
  have hc : ∀ j u, (sqRow q)[j]? = some u → w.cell? ⟨g, k * 3 + j, none⟩ = some u := fun j u hu => (owned_cells h _ _ (flat_get sq_len qs k q j u hk hu)).1
  exact ⟨hc 0 _ rfl, hc 1 _ rfl, hc 2 _ rfl⟩
/-- No cell of a row that is the call's own is frozen. -/
theorem owned_free {w : World} {base : Nat} {e : TypeId} {size : Nat} {g n cap : Nat} {xs : List Value} (h : w.ownsRow base e size (.slice (some ⟨g, 0, none⟩) n cap) n xs) (j : Nat) : w.frozen? ⟨g, j, none⟩ = false := by
  rcases h.2 with ⟨hv, _⟩ | ⟨g', cap', cur, hv, hb, hg, h1, h2, h3, h4⟩
  · cases hv
  · cases hv
    exact frozen_of_row w g j cur e hg
/-- A record laid down in a row. -/
theorem set8_row {w : World} {base g n cap : Nat} {vs : List RV} (h : w.ownsRow base 24 8 (.slice (some ⟨g, 0, none⟩) n cap) n (vs.flatMap rvRow)) {k : Nat} {u : RV} (hk : vs[k]? = some u) (v : RV) :
    ((((((((w.setCell ⟨g, k * 8, none⟩ (.string v.name)).setCell ⟨g, k * 8 + 1, none⟩ (.bool v.mapped)).setCell ⟨g, k * 8 + 2, none⟩ (.string v.ref)).setCell ⟨g, k * 8 + 3, none⟩ (.int .i64 v.pos)).setCell ⟨g, k * 8 + 4, none⟩ (.slice v.ao v.len v.cap)).setCell ⟨g, k * 8 + 5, none⟩ (.string v.bases)).setCell ⟨g, k * 8 + 6, none⟩ (.string v.quals)).setCell ⟨g, k * 8 + 7, none⟩ (.int .i64 v.score)).ownsRow base 24 8 (.slice (some ⟨g, 0, none⟩) n cap) n ((vs.set k v).flatMap rvRow) := by
  have hlt : k < vs.length := (List.getElem?_eq_some_iff.1 hk).1
  have step : ∀ {W : World} {ws : List RV} {a b : RV} {j : Nat} {x : Value}, W.ownsRow base 24 8 (.slice (some ⟨g, 0, none⟩) n cap) n ((ws.set k a).flatMap rvRow) → k < ws.length → j < 8 → (rvRow a).set j x = rvRow b → (W.setCell ⟨g, k * 8 + j, none⟩ x).ownsRow base 24 8 (.slice (some ⟨g, 0, none⟩) n cap) n ((ws.set k b).flatMap rvRow) := by
    intro W ws a b j x hW hl hj he
    have h1 := owned_set hW (k * 8 + j) x
    rw [flat_set rv_len (ws.set k a) k a b j x (by simp [hl]) hj he, List.set_set] at h1
    exact h1
  have h0 : w.ownsRow base 24 8 (.slice (some ⟨g, 0, none⟩) n cap) n ((vs.set k u).flatMap rvRow) := by
    have e : vs.set k u = vs := by
      apply List.ext_getElem?
      intro i
      by_cases hi : k = i
      · subst hi; rw [List.getElem?_set_self hlt, hk]
      · rw [List.getElem?_set_ne hi]
    rw [e]; exact h
  have s0 := step (j := 0) (b := { u with name := v.name }) h0 hlt (by decide) rfl
  have s1 := step (j := 1) (b := { u with name := v.name, mapped := v.mapped }) s0 hlt (by decide) rfl
  have s2 := step (j := 2) (b := { u with name := v.name, mapped := v.mapped, ref := v.ref }) s1 hlt (by decide) rfl
  have s3 := step (j := 3) (b := { u with name := v.name, mapped := v.mapped, ref := v.ref, pos := v.pos }) s2 hlt (by decide) rfl
  have s4 := step (j := 4) (b := { u with name := v.name, mapped := v.mapped, ref := v.ref, pos := v.pos, ao := v.ao, len := v.len, cap := v.cap }) s3 hlt (by decide) rfl
  have s5 := step (j := 5) (b := { u with name := v.name, mapped := v.mapped, ref := v.ref, pos := v.pos, ao := v.ao, len := v.len, cap := v.cap, bases := v.bases }) s4 hlt (by decide) rfl
  have s6 := step (j := 6) (b := { u with name := v.name, mapped := v.mapped, ref := v.ref, pos := v.pos, ao := v.ao, len := v.len, cap := v.cap, bases := v.bases, quals := v.quals }) s5 hlt (by decide) rfl
  have s7 := step (j := 7) (b := v) s6 hlt (by decide) rfl
  exact s7
theorem block8 {B : Nat} {a w : World} (h : Below B a w) {g : Nat} (hg : B ≤ g) (k : Nat) (v0 v1 v2 v3 v4 v5 v6 v7 : Value) : Below B a ((((((((w.setCell ⟨g, k, none⟩ v0).setCell ⟨g, k + 1, none⟩ v1).setCell ⟨g, k + 2, none⟩ v2).setCell ⟨g, k + 3, none⟩ v3).setCell ⟨g, k + 4, none⟩ v4).setCell ⟨g, k + 5, none⟩ v5).setCell ⟨g, k + 6, none⟩ v6).setCell ⟨g, k + 7, none⟩ v7) :=
  (((((((h.setCell (p := ⟨g, k, none⟩) hg _).setCell (p := ⟨g, k + 1, none⟩) hg _).setCell (p := ⟨g, k + 2, none⟩) hg _).setCell (p := ⟨g, k + 3, none⟩) hg _).setCell (p := ⟨g, k + 4, none⟩) hg _).setCell (p := ⟨g, k + 5, none⟩) hg _).setCell (p := ⟨g, k + 6, none⟩) hg _).setCell (p := ⟨g, k + 7, none⟩) hg _
/-- Eight stores into a block of records leave rows of another type. -/
theorem set8_other {w : World} {base : Nat} {e : TypeId} {size : Nat} {v : Value} {n : Nat} {xs : List Value} (h : w.ownsRow base e size v n xs) {g : Nat} {cs : Array Value} {t : TypeId} {f : Nat × Nat} (hb : w.heap[g]? = some (.cells cs t f)) (hne : e ≠ t) (k : Nat) (v0 v1 v2 v3 v4 v5 v6 v7 : Value) :
    ((((((((w.setCell ⟨g, k, none⟩ v0).setCell ⟨g, k + 1, none⟩ v1).setCell ⟨g, k + 2, none⟩ v2).setCell ⟨g, k + 3, none⟩ v3).setCell ⟨g, k + 4, none⟩ v4).setCell ⟨g, k + 5, none⟩ v5).setCell ⟨g, k + 6, none⟩ v6).setCell ⟨g, k + 7, none⟩ v7).ownsRow base e size v n xs := by
  refine owned_of_block h fun j cur _ hj => ?_
  have hne2 : j ≠ g := fun e' => by subst e'; rw [hb] at hj; cases hj; exact hne rfl
  have hs : ∀ (W : World) (i : Nat) (u : Value), (W.setCell ⟨g, i, none⟩ u).heap[j]? = W.heap[j]? := fun W i u => Below.heap_setCell W _ u j hne2
  simp only [hs]
theorem row_block {w : World} {base : Nat} {e : TypeId} {size : Nat} {g n cap : Nat} {xs : List Value} (h : w.ownsRow base e size (.slice (some ⟨g, 0, none⟩) n cap) n xs) : ∃ cs, w.heap[g]? = some (.cells cs e (0, 0)) := by
  rcases h.2 with ⟨hv, _⟩ | ⟨g', cap', cur, hv, hb, hg, h1, h2, h3, h4⟩
  · cases hv
  · cases hv; exact ⟨_, hg⟩
theorem row_base {w : World} {base : Nat} {e : TypeId} {size : Nat} {g n cap : Nat} {xs : List Value} (h : w.ownsRow base e size (.slice (some ⟨g, 0, none⟩) n cap) n xs) : base ≤ g := by
  rcases h.2 with ⟨hv, _⟩ | ⟨g', cap', cur, hv, hb, hg, h1, h2, h3, h4⟩
  · cases hv
  · cases hv; exact hb
/-- A block that was just made, as a row. -/
theorem block_row {w : World} {B g n size : Nat} {e : TypeId} {xs : List Value} (hB : B ≤ g) (hm : n ≤ maxLen) (hx : xs.length = n * size) (h : w.heap[g]? = some (.cells xs.toArray e (0, 0))) : w.ownsRow B e size (.slice (some ⟨g, 0, none⟩) n n) n xs :=
  ⟨hx, .inr ⟨g, n, xs.toArray, rfl, hB, h, Nat.le_refl _, hm, by simpa using hx, by simp only []; exact List.take_of_length_le (by omega)⟩⟩
theorem row_full {w : World} {B g n size : Nat} {e : TypeId} {xs : List Value} (h : w.ownsRow B e size (.slice (some ⟨g, 0, none⟩) n n) n xs) : w.heap[g]? = some (.cells xs.toArray e (0, 0)) := by
  rcases h.2 with ⟨hv, _⟩ | ⟨g', cap', cur, hv, hb, hg, h1, h2, h3, h4⟩
  · cases hv
  · cases hv
    rw [hg]
    have : cur.toList = xs := by rw [← h4, List.take_of_length_le (by simp [h3])]
    rw [← this]
/-- A part of a row of sequences, as a list that can be read. -/
theorem sqs_take {w : World} {base g n cap : Nat} {qs : List Sq} (h : w.ownsRow base 42 3 (.slice (some ⟨g, 0, none⟩) n cap) n (qs.flatMap sqRow)) (hf : ∀ q ∈ qs, q.short) (m : Nat) (hm : m ≤ qs.length) (hs : m ≤ maxLen) : SqsAt w (some ⟨g, 0, none⟩) m (qs.take m) := by
  refine ⟨by rw [List.length_take]; omega, hs, fun q hq => hf q (List.mem_of_mem_take hq), fun _ => ⟨g, 0, rfl, fun i q hi => ?_⟩⟩
  rw [List.getElem?_take] at hi
  split at hi
  · simp only [Nat.zero_add]; exact sqs_cells h hi
  · cases hi
theorem recs_take {w : World} {base g n cap : Nat} {vs : List RV} (h : w.ownsRow base 24 8 (.slice (some ⟨g, 0, none⟩) n cap) n (vs.flatMap rvRow)) (xs : List Rl) (hx : ∀ (i : Nat) (x : Rl), xs[i]? = some x → vs[i]? = some x.1) (hf : ∀ x ∈ xs, RecOk w x.1 x.2) (hs : xs.length ≤ maxLen) : RecsAt w (some ⟨g, 0, none⟩) xs.length xs := by
  refine ⟨rfl, hs, hf, fun _ => ⟨g, 0, rfl, fun i x hi => ?_⟩⟩
  simp only [Nat.zero_add]; exact rvs_cells h (hx i x hi)
theorem SqsAt.source {w : World} {ao : Option Addr} {len : Nat} {qs : List Sq} (h : SqsAt w ao len qs) : ∀ ad, ao = some ad → ∀ j v, (qs.flatMap sqRow)[j]? = some v → w.cell? (ad.add j) = some v := by
  intro ad e j v hj
  have hlt : j < (qs.flatMap sqRow).length := (List.getElem?_eq_some_iff.1 hj).1
  rw [flat_length sq_len, h.length] at hlt
  obtain ⟨b, off, e2, hc⟩ := h.cells (by omega)
  rw [e] at e2
  cases e2
  have hi : j / 3 < qs.length := by rw [h.length]; omega
  have hq : qs[j / 3]? = some qs[j / 3] := List.getElem?_eq_getElem hi
  obtain ⟨c1, c2, c3⟩ := hc _ _ hq
  rw [Go.WideShapes.add_plain]
  have hg : ∀ t u, (sqRow qs[j / 3])[t]? = some u → j = j / 3 * 3 + t → u = v := fun t u hu ht => by
    have := flat_get sq_len qs (j / 3) _ t u hq hu
    rw [← ht, hj] at this; exact (Option.some.inj this).symm
  have h3 : j % 3 = 0 ∨ j % 3 = 1 ∨ j % 3 = 2 := by omega
  rcases h3 with h3 | h3 | h3
  · rw [← hg 0 _ rfl (by omega), show off + j = off + j / 3 * 3 by omega]; exact c1
  · rw [← hg 1 _ rfl (by omega), show off + j = off + j / 3 * 3 + 1 by omega]; exact c2
  · rw [← hg 2 _ rfl (by omega), show off + j = off + j / 3 * 3 + 2 by omega]; exact c3
theorem size42 : (Tryz.prog.info? 42).map (·.size) = some 3 := by kernel_rfl
theorem run_copy_sq (w : World) (ty : TypeId) (g dLen dCap : Nat) (a : Addr) (sLen sCap : Nat) (cur : Array Value) (cs : List Value) (hg : w.heap[g]? = some (.cells cur 42 (0, 0))) (hn : cs.length = Nat.min sLen dLen * 3)
    (hsrc : ∀ j v, cs[j]? = some v → w.cell? (a.add j) = some v) (hfit : cs.length ≤ cur.size) (h1 : ∀ v ∈ cs, v.oneCell' = true) :
    (Builtin.copy_ #[39, 39] ty #[.slice (some ⟨g, 0, none⟩) dLen dCap, .slice (some a) sLen sCap]).run Tryz.prog w = .ok (goInt (Nat.min sLen dLen)) (w.setRow g (cs ++ cur.toList.drop cs.length).toArray) := by
  have hl := run_loadCells_list (P := Tryz.prog) w a cs hsrc
  have hst := run_storeCells_at Tryz.prog g 0 42 cs 0 cur w hg (by simpa using hfit) h1
  cases hq : Tryz.prog.info? 42 with
  | none => have := size42; simp [hq] at this
  | some i =>
    have hi : i.size = 3 := by have := size42; simpa [hq] using this
    simp [Builtin.copy_, run_underlying Tryz.underlying39, Builtin.lenOf, Builtin.firstCells, sizeOf, typeInfo, hq, hi, ← hn, hl, hst]
theorem wpList_copy_sq {w : World} {ops : Array Oper} {rest : List Oper} {o : Oper} {a : Act} {Q : Exit → Act → World → Prop} (hgd : o.guard = none) (d s : Operand)
    (ho : o.op = .call { callee := .builtin .copy, args := #[d, s], argTypes := #[39, 39] }) (g dLen dCap : Nat) (ao : Option Addr) (sLen sCap : Nat) (hd : a.eval d = .slice (some ⟨g, 0, none⟩) dLen dCap) (hs : a.eval s = .slice ao sLen sCap)
    (hao : ao = none → sLen = 0 ∧ sCap = 0) (cur : Array Value) (hg : w.heap[g]? = some (.cells cur 42 (0, 0))) (cs : List Value) (hn : cs.length = Nat.min sLen dLen * 3) (hsrc : ∀ ad, ao = some ad → ∀ j v, cs[j]? = some v → w.cell? (ad.add j) = some v) (hfit : cs.length ≤ cur.size) (h1 : ∀ v ∈ cs, v.oneCell' = true)
    (B : Nat) (w0 : World) (hb : Below B w0 w) (hBg : B ≤ g)
    (h : ∀ w', Hid (w'.heap[g]? = some (.cells (cs ++ cur.toList.drop cs.length).toArray 42 (0, 0))) → Below B w0 w' → ∀ v, wpList Tryz.prog ops Q rest (a.put o.dst v) w') : wpList Tryz.prog ops Q (o :: rest) a w := by
  refine wpList_plain hgd fun K hK => ?_
  cases ao with
  | some ad =>
    have hrun := run_copy_sq w o.type g dLen dCap ad sLen sCap cur cs hg hn (hsrc ad rfl) hfit h1
    unfold Oper.wp
    simp [execOp, ho, resolve, invoke, builtin, hd, hs, hrun, Result.andThen]
    exact hK _ _ (h _ (setRow_heap w g cur _ 42 (0, 0) hg) (below_setRow hb hBg _) _)
  | none =>
    obtain ⟨rfl, rfl⟩ := hao rfl
    have hcs : cs = [] := List.eq_nil_of_length_eq_zero (by simpa using hn)
    subst hcs
    have hrun := run_copy_nil (P := Tryz.prog) w 39 39 o.type 42 ⟨g, 0, none⟩ dLen dCap Tryz.underlying39 (by rw [size42]; rfl)
    unfold Oper.wp
    simp [execOp, ho, resolve, invoke, builtin, hd, hs, hrun, Result.andThen]
    exact hK _ _ (h _ (by simpa [Hid] using hg) hb _)
end Go.Proofs.YtdhphipdpjhhbaaGreatDoor
