/-
  append on a row of the call's own within a fence, and where the new row lies; how many paths there may be; rows of paths.
-/
import Derived.Test.YtegndeefddlccaaPiC
import Derived.ArgAppend
import Derived.OwnWalkIn
namespace Go.Proofs.Ytegndeefddlccaa
open Go.RowKit

theorem run_append_fresh {P : Program} (w : World) (base : Nat) (t ty e : TypeId) (i : TypeInfo) (z : Value) (size bytes : Nat) (ht : P.underlying t = some (.slice e)) (hi : P.info? e = some i) (hz : i.zero = some z)
    (hsize : i.size = size) (hby : i.bytes = bytes) (hzs : z.cells.size = size) (hsz : 0 < size)
    (v : Value) (n : Nat) (xs : List Value) (hown : w.ownsRow base e size v n xs)
    (a : Addr) (m c : Nat) (news : List Value) (hl : news.length = m * size) (hnews : ∀ j u, news[j]? = some u → w.cell? (a.add j) = some u) (h1 : ∀ u ∈ news, u.oneCell' = true)
    (h63 : n + m ≤ maxLen) (hbytes : (n + m) * bytes ≤ 140737488355328) (hbase : base ≤ w.heap.size) :
    ∃ v' w', (Builtin.append_ #[t, t] ty #[v, .slice (some a) m c]).run P w = .ok v' w' ∧ w'.ownsRow base e size v' (n + m) (xs ++ news) ∧ w.grownBy w' v.ownBlock ∧
      (∀ g, v'.ownBlock = some g → some g = v.ownBlock ∨ w.heap.size ≤ g) := by
  obtain ⟨v', w', hr, ho, hg, _⟩ := run_append_own w base t ty e i z size bytes ht hi hz hsize hby hzs hsz v n xs hown a m c news hl hnews h1 h63 hbytes hbase
  refine ⟨v', w', hr, ho, hg, ?_⟩
  rcases hown.2 with ⟨hv, h0⟩ | ⟨g0, cap, cur, hv, hb, hgr, hc1, hc2, hc3, hc4⟩
  · subst hv
    subst h0
    have hxs : xs = [] := List.eq_nil_of_length_eq_zero (by have := hown.1; simpa using this)
    subst hxs
    obtain ⟨v2, w2, hr2, ho2, _, _⟩ := run_append_own w w.heap.size t ty e i z size bytes ht hi hz hsize hby hzs hsz (.slice none 0 0) 0 [] (World.ownsRow_nil _ _ _ _) a m c news hl hnews h1 h63 hbytes (Nat.le_refl _)
    rw [hr] at hr2
    cases hr2
    exact fun g hg' => .inr (ho2.lt g hg').1
  · subst hv
    by_cases hroom : n + m ≤ cap
    · subst hsize
      have hsp : ∀ j, j < news.length → (w.cell? ⟨g0, 0 + n * i.size + j, none⟩).isSome = true := fun j hj => by
        rw [cell_of_row w g0 _ cur e (0, 0) hgr]
        rw [hl] at hj
        have h2 : (n + m) * i.size ≤ cap * i.size := Nat.mul_le_mul_right _ hroom
        rw [Nat.add_mul] at h2
        rw [Array.getElem?_eq_getElem (by omega)]; rfl
      have hr2 := run_append_room_cells (P := P) w t ty e i ht hi g0 0 n cap a m c news hl hnews h1 hroom hsp (fun j _ => frozen_of_row w g0 _ cur e hgr)
      rw [hr] at hr2
      cases hr2
      exact fun g hg' => .inl hg'.symm
    · obtain ⟨v2, w2, hr2, ho2, _⟩ := run_append_arg_grows (P := P) w t ty e i z size bytes ht hi hz hsize hby hzs hsz ⟨g0, 0, none⟩ n cap xs hown.1 (fun j u hj => hown.cells (g := g0) rfl j u hj) a m c news hl hnews (by omega) h63 hbytes
      rw [hr] at hr2
      cases hr2
      exact fun g hg' => .inr (ho2.lt g hg').1
theorem in_append_fresh {F : Fence} {nf : Nat} {P : Program} {w : World} {ops : Array Oper} {rest : List Oper} {o : Oper} {a : Act} {Q : Exit → Act → World → Prop} (hgd : o.guard = none) (s x : Operand) (t : TypeId)
    (ho : o.op = .call { callee := .builtin .append, args := #[s, x], argTypes := #[t, t] })
    (base : Nat) (e : TypeId) (i : TypeInfo) (z : Value) (size bytes : Nat) (ht : P.underlying t = some (.slice e)) (hi : P.info? e = some i) (hz : i.zero = some z)
    (hsize : i.size = size) (hby : i.bytes = bytes) (hzs : z.cells.size = size) (hsz : 0 < size)
    (v : Value) (n : Nat) (xs : List Value) (hs : a.eval s = v) (hown : w.ownsRow base e size v n xs)
    (ad : Addr) (m c : Nat) (news : List Value) (hx : a.eval x = .slice (some ad) m c) (hl : news.length = m * size) (hnews : ∀ j u, news[j]? = some u → w.cell? (ad.add j) = some u) (h1 : ∀ u ∈ news, u.oneCell' = true)
    (h63 : n + m ≤ maxLen) (hbytes : (n + m) * bytes ≤ 140737488355328) (hbase : base ≤ w.heap.size)
    (h : ∀ v' w', w'.ownsRow base e size v' (n + m) (xs ++ news) → w.grownBy w' v.ownBlock → (∀ g, v'.ownBlock = some g → some g = v.ownBlock ∨ w.heap.size ≤ g) → wpListIn F nf P ops Q rest (a.put o.dst v') w') : wpListIn F nf P ops Q (o :: rest) a w := by
  refine wpListIn_plain hgd fun K hK => ?_
  obtain ⟨v', w', hrun, r1, r2, r3⟩ := run_append_fresh (P := P) w base t o.type e i z size bytes ht hi hz hsize hby hzs hsz v n xs hown ad m c news hl hnews h1 h63 hbytes hbase
  refine ⟨by simp [Oper.about, ho, resolve, Target.leads, Sem.run_pure], ?_⟩
  rw [Oper.semAt_plain F _ _ (by rw [ho]; intro c hc; cases hc)]
  simp [execOp, ho, resolve, invoke, builtin, hs, hx, hrun, Result.andThen]
  exact hK _ _ (h v' w' r1 r2 r3)

theorem intoF_few (m : Md) (nx ny : Nat) : ∀ (n : Nat) (i j : Int) (b : List UInt8), (intoF m nx ny n i j b).length ≤ 4 ^ n := by
  intro n
  induction n with
  | zero => intro i j b; simp [intoF]
  | succ n ih =>
    intro i j b
    have hp : ∀ c : UInt8, (if goB m c then intoF m nx ny n (i - dnB c) (j - ovB c) (c :: b) else []).length ≤ 4 ^ n := fun c => by
      split
      · exact ih _ _ _
      · exact Nat.zero_le _
    have hb : (if beginB m i j then [(⟨i, j, b⟩ : Pt)] else []).length ≤ 1 := by split <;> simp
    have h1 : 1 ≤ 4 ^ n := Nat.one_le_pow _ _ (by decide)
    have h77 := hp 77
    have h68 := hp 68
    have h73 := hp 73
    unfold intoF
    split
    · simp only [List.flatMap_cons, List.flatMap_nil, List.append_nil, List.length_append, Nat.pow_succ]
      omega
    · simp
theorem flat_few {α : Type} (f : Nat → List α) (c : Nat) : ∀ n, (∀ k, k < n → (f k).length ≤ c) → ((List.range n).flatMap f).length ≤ n * c := by
  intro n
  induction n with
  | zero => intro _; simp
  | succ n ih =>
    intro h
    rw [rows_succ, List.length_append, Nat.succ_mul]
    have := ih (fun k hk => h k (by omega))
    have := h n (by omega)
    omega
theorem pathsB_few {m : Md} {nx ny : Nat} (h : nx + ny ≤ 8) : (pathsB m nx ny).length ≤ 100000000 := by
  have hc : ∀ i j, i ≤ nx → j ≤ ny → (cellB m nx ny i j).length ≤ 262144 := fun i j hi hj => by
    unfold cellB
    split
    · refine Nat.le_trans (intoF_few _ _ _ _ _ _ _) ?_
      have : (4 : Nat) ^ (i + j + 1) ≤ 4 ^ 9 := Nat.pow_le_pow_right (by decide) (by omega)
      omega
    · simp
  have hr : ∀ i, i < nx + 1 → (rowB m nx ny i).length ≤ (ny + 1) * 262144 := fun i hi => flat_few _ _ _ (fun j hj => hc i j (by omega) (by omega))
  rw [pathsB_rows]
  have := flat_few (rowB m nx ny) ((ny + 1) * 262144) (nx + 1) hr
  refine Nat.le_trans this ?_
  have h1 : nx + 1 ≤ 9 := by omega
  have h2 : (ny + 1) * 262144 ≤ 9 * 262144 := Nat.mul_le_mul_right _ (by omega)
  calc (nx + 1) * ((ny + 1) * 262144) ≤ 9 * (9 * 262144) := Nat.mul_le_mul h1 h2
    _ ≤ 100000000 := by decide

def ptCells (p : Pt) : List Value := [.int .i64 p.i, .int .i64 p.j, .string (bs p.cols)]
def ptRow (l : List Pt) : List Value := l.flatMap ptCells
theorem ptRow_snoc (l : List Pt) (p : Pt) : ptRow (l ++ [p]) = ptRow l ++ ptCells p := by simp [ptRow]
theorem info33 : (Try.prog.info? 33).map (fun i => (i.zero, i.size, i.bytes)) = some (some (.agg #[.int .i64 0, .int .i64 0, .string ByteArray.empty]), 3, 32) := by kernel_rfl
theorem info_parts {e : TypeId} {z : Value} {size bytes : Nat} (h : (Try.prog.info? e).map (fun i => (i.zero, i.size, i.bytes)) = some (some z, size, bytes)) : ∃ i, Try.prog.info? e = some i ∧ i.zero = some z ∧ i.size = size ∧ i.bytes = bytes := by
  cases hi : Try.prog.info? e with
  | none => simp [hi] at h
  | some i => simp [hi] at h; exact ⟨i, rfl, h.1, h.2.1, h.2.2⟩
theorem own_keep_row {w w' : World} {T : Nat → Prop} {base : Nat} {e : TypeId} {size : Nat} {v : Value} {n : Nat} {xs : List Value} (h : w.ownsRow base e size v n xs) (hf : Fr T w w') (hT : ∀ g, v.ownBlock = some g → ¬ T g) : w'.ownsRow base e size v n xs := by
  refine ⟨h.1, ?_⟩
  rcases h.2 with h1 | ⟨g, cap, cur, rfl, hb, hg, h2⟩
  · exact .inl h1
  · exact .inr ⟨g, cap, cur, rfl, hb, hf.heap hg (hT g rfl), h2⟩
/-- The paths that have come, in a row of the call's own; the row's slice in a box. -/
structure AlK (B ba : Nat) (s : List Pt) (O : Nat → Prop) (W : World) : Prop where
  row : ∃ v, W.heap[ba]? = some (.cells #[v] 38 (0, 0)) ∧ W.ownsRow B 33 3 v s.length (ptRow s) ∧ (∀ k, O k ↔ (k = ba ∨ v.ownBlock = some k)) ∧ B ≤ ba ∧ v.ownBlock ≠ some ba ∧ (s ≠ [] → ∃ g cap, v = .slice (some ⟨g, 0, none⟩) s.length cap)
theorem ownBlock_lt {w : World} {base : Nat} {e : TypeId} {size : Nat} {v : Value} {n : Nat} {xs : List Value} (h : w.ownsRow base e size v n xs) {g : Nat} (hg : v.ownBlock = some g) : base ≤ g ∧ g < w.heap.size := h.lt g hg
theorem AlK.lt {B ba : Nat} {s : List Pt} {O : Nat → Prop} {W : World} (h : AlK B ba s O W) : ∀ k, O k → k < W.heap.size := by
  obtain ⟨v, h1, h2, h3, _⟩ := h.row
  intro k hk
  rcases (h3 k).1 hk with rfl | hk
  · exact (Array.getElem?_eq_some_iff.1 h1).1
  · exact (ownBlock_lt h2 hk).2
theorem AlK.stab {B ba m : Nat} : Stab m (AlK B ba) := by
  intro s O A C T h hf hT
  obtain ⟨v, h1, h2, h3, h4⟩ := h.row
  exact ⟨v, hf.heap h1 (fun ht => (hT _ ht).2 ((h3 _).2 (.inl rfl))), own_keep_row h2 hf (fun g hg ht => (hT _ ht).2 ((h3 _).2 (.inr hg))), h3, h4⟩
end Go.Proofs.Ytegndeefddlccaa
