/-
  The walk of the document's own Parse.
-/
import Derived.Test.YtcpoiaclicmmmaaParse
import Derived.Test.YtcpoiaclicmmmaaLines
import Derived.Test.YtcpoiaclicmmmaaWrong
namespace Go.Proofs.Ytcpoiaclicmmmaa
open Go.RowKit

theorem linesGo_each (t : List UInt8) : ∀ cur l, l ∈ linesGo cur t → l.length ≤ cur.length + t.length := by
  induction t with
  | nil =>
    intro cur l hl
    unfold linesGo at hl
    split at hl
    · simp at hl
    · simp at hl; subst hl; have := trimB_length_le cur; simp; omega
  | cons c r ih =>
    intro cur l hl
    have hl' : l ∈ (if c = 10 then trimB cur :: linesGo [] r else linesGo (cur ++ [c]) r) := hl
    split at hl'
    · rcases List.mem_cons.1 hl' with rfl | h
      · have := trimB_length_le cur; simp; omega
      · have := ih [] l h; simp at this ⊢; omega
    · have := ih _ l hl'; simp at this ⊢; omega
theorem owned_base {w : World} {B B' : Nat} {e : TypeId} {size : Nat} {v : Value} {n : Nat} {xs : List Value} (h : w.ownsRow B e size v n xs) (hB : B' ≤ B) : w.ownsRow B' e size v n xs := by
  refine ⟨h.1, ?_⟩
  rcases h.2 with hn | ⟨g, cap, cur, hv, hb, rest⟩
  · exact .inl hn
  · exact .inr ⟨g, cap, cur, hv, Nat.le_trans hB hb, rest⟩

/-! Four lines at once -/
theorem stepQ_first {st : List Pr} {l : List UInt8} (h0 : l ≠ []) : stepQ st .p0 l = if firstB st.length l then some (st, .p1 l.tail) else none := by
  show (if l = [] then _ else _) = _
  rw [if_neg h0]
theorem goQ_full {st : List Pr} {i : Nat} {l0 : List UInt8} {ls : List (List UInt8)} (h0 : l0 ≠ []) (h : 256 ≤ st.length) : goQ st .p0 i (l0 :: ls) = ([], i + 1, 30) := by
  have : firstB st.length l0 = false := by
    unfold firstB; have : decide (st.length < 256) = false := by simp; omega
    simp [this]
  simp [goQ, stepQ_first h0, this]
theorem goQ_four {st : List Pr} {i : Nat} {l0 : List UInt8} {ls : List (List UInt8)} (h0 : l0 ≠ []) (h : st.length < 256) :
    (∀ k, wrongQ ((l0 :: ls).take 4) = some k → goQ st .p0 i (l0 :: ls) = ([], i + k + 1, 30)) ∧
    (wrongQ ((l0 :: ls).take 4) = none → ∃ l1 l2 l3 r, ls = l1 :: l2 :: l3 :: r ∧ goQ st .p0 i (l0 :: ls) = goQ (readOf l0.tail l1 l3 :: st) .p0 (i + 4) r) := by
  have hf : firstB st.length l0 = (decide (l0.head? = some 64) && titleOkB l0.tail) := by
    unfold firstB; simp [h]
  have e0 : stepQ st .p0 l0 = if (decide (l0.head? = some 64) && titleOkB l0.tail) then some (st, .p1 l0.tail) else none := by rw [stepQ_first h0, hf]
  cases hx : (decide (l0.head? = some 64) && titleOkB l0.tail) with
  | false =>
    rw [hx] at e0
    constructor
    · intro k hk
      simp only [List.take_succ_cons, wrongQ, hx] at hk
      simp at hk
      subst hk
      simp [goQ, e0]
    · intro hk
      simp only [List.take_succ_cons, wrongQ, hx] at hk
      simp at hk
  | true =>
    rw [hx] at e0
    cases ls with
    | nil =>
      constructor
      · intro k hk
        simp only [List.take_succ_cons, List.take_nil, wrongQ, hx] at hk
        simp at hk
        subst hk
        simp [goQ, e0]
      · intro hk
        simp only [List.take_succ_cons, List.take_nil, wrongQ, hx] at hk
        simp at hk
    | cons l1 ls =>
      have e1 : stepQ st (.p1 l0.tail) l1 = if basesB l1 then some (st, .p2 l0.tail l1) else none := rfl
      cases hb : basesB l1 with
      | false =>
        rw [hb] at e1
        constructor
        · intro k hk
          simp only [List.take_succ_cons, wrongQ, hx, hb] at hk
          simp at hk
          subst hk
          simp [goQ, e0, e1]
        · intro hk
          simp only [List.take_succ_cons, wrongQ, hx, hb] at hk
          simp at hk
      | true =>
        rw [hb] at e1
        cases ls with
        | nil =>
          constructor
          · intro k hk
            simp only [List.take_succ_cons, List.take_nil, wrongQ, hx, hb] at hk
            simp at hk
            subst hk
            simp [goQ, e0, e1]
          · intro hk
            simp only [List.take_succ_cons, List.take_nil, wrongQ, hx, hb] at hk
            simp at hk
        | cons l2 ls =>
          have e2 : stepQ st (.p2 l0.tail l1) l2 = if markB l0.tail l2 then some (st, .p3 l0.tail l1) else none := rfl
          cases hm : markB l0.tail l2 with
          | false =>
            rw [hm] at e2
            constructor
            · intro k hk
              simp only [List.take_succ_cons, wrongQ, hx, hb, hm] at hk
              simp at hk
              subst hk
              simp [goQ, e0, e1, e2]
            · intro hk
              simp only [List.take_succ_cons, wrongQ, hx, hb, hm] at hk
              simp at hk
          | true =>
            rw [hm] at e2
            cases ls with
            | nil =>
              constructor
              · intro k hk
                simp only [List.take_succ_cons, List.take_nil, wrongQ, hx, hb, hm] at hk
                simp at hk
                subst hk
                simp [goQ, e0, e1, e2]
              · intro hk
                simp only [List.take_succ_cons, List.take_nil, wrongQ, hx, hb, hm] at hk
                simp at hk
            | cons l3 ls =>
              have e3 : stepQ st (.p3 l0.tail l1) l3 = if lastB l1 l3 then some (readOf l0.tail l1 l3 :: st, .p0) else none := rfl
              cases hl : lastB l1 l3 with
              | false =>
                rw [hl] at e3
                constructor
                · intro k hk
                  simp only [List.take_succ_cons, List.take_zero, wrongQ, hx, hb, hm, hl] at hk
                  simp at hk
                  subst hk
                  simp [goQ, e0, e1, e2, e3]
                · intro hk
                  simp only [List.take_succ_cons, List.take_zero, wrongQ, hx, hb, hm, hl] at hk
                  simp at hk
              | true =>
                rw [hl] at e3
                constructor
                · intro k hk
                  simp only [List.take_succ_cons, List.take_zero, wrongQ, hx, hb, hm, hl] at hk
                  simp at hk
                · intro _
                  exact ⟨l1, l2, l3, ls, rfl, by simp [goQ, e0, e1, e2, e3]⟩

theorem slice_lines (g nl cap k m : Nat) (z : Int) (W : World) (hz : z = ((k + m : Nat) : Int)) (hc : k + m ≤ cap) (hm : 0 < m) :
    (Instr.slice 38 (.slice (some ⟨g, 0, none⟩) nl cap) (some (.int .i64 (k : Int))) (some (.int .i64 z)) none).run Try.prog W = .ok (.slice (some ⟨g, k, none⟩) m (cap - k)) W := by
  subst hz
  have he : Try.prog.elem 38 = 9 := by kernel_rfl
  rw [run_slice_lh (P := Try.prog) W 38 _ _ _ (by rw [he]; exact Try.underlying38) .i64 .i64 _ _ (by omega) (by omega) (by omega), he]
  have hsz : (sizeOf 9).run Try.prog W = .ok 1 W := by kernel_rfl
  rw [hsz]
  have h1 : ¬ cap = k := by omega
  simp [sliced, Result.andThen, Addr.add, h1]
  omega
theorem owned_cap {w : World} {base : Nat} {e : TypeId} {size : Nat} {ao : Option Addr} {n cap : Nat} {xs : List Value} (h : w.ownsRow base e size (.slice ao n cap) n xs) : n ≤ cap := by
  rcases h.2 with ⟨hv, rfl⟩ | ⟨g, cap', cur, hv, hb, hg, h1, h2, h3, h4⟩
  · exact Nat.zero_le _
  · cases hv; exact h1
/-- A row of reads that stands for a state. -/
def RowIs (B : Nat) (v : Value) (qs : List Rd) (st : List Pr) (w : World) : Prop :=
  w.ownsRow B 29 4 v qs.length (rowCells qs) ∧ qs.map Rd.P = st.reverse
end Go.Proofs.Ytcpoiaclicmmmaa
