/-
  The walks of doubled, laid, check; the document's number, numbers, Check.
-/
import Derived.Test.YtignpgoicoojiaaDoorRtB
namespace Go.Proofs.YtignpgoicoojiaaDoor
open Go.RowKit

theorem info5 : (Tryd.prog.info? 5).map (fun i => (i.zero, i.size, i.bytes)) = some (some (.int .u8 0), 1, 1) := by kernel_rfl
theorem below_append {w w3 : World} {B n : Nat} {v : Value} {xs : List Value} {t : TypeId} {o : Obj} (h : w.ownsRow B t 1 v n xs) (hB : B ≤ w.heap.size) (hg : (w.alloc o).grownBy w3 v.ownBlock) : Below B w w3 :=
  (((Below.refl B w).alloc hB o).grown hg (by simp; omega) (fun k hk => (h.lt k hk).1))
theorem owned_text {w : World} {base : Nat} {ao : Option Addr} {n cap : Nat} {t : List UInt8} (h : w.ownsRow base 5 1 (.slice ao n cap) n (byteVals t)) :
    (convert 42 9 (.slice ao n cap)).run Tryd.prog w = .ok (.string ⟨t.toArray⟩) w := by
  have hl : t.length = n := by simpa [byteVals] using h.1
  rcases h.2 with ⟨hv, rfl⟩ | ⟨g, cap', cur, hv, hb, hg, _⟩
  · cases hv
    have ht : t = [] := List.eq_nil_of_length_eq_zero hl
    subst ht
    rw [run_convert_bytes_string w 42 9 5 none 0 0 Tryd.underlying42 Tryd.underlying5 Tryd.underlying9]
    rfl
  · cases hv
    subst hl
    refine run_convert_bytes_back w 42 9 5 ⟨g, 0, none⟩ cap t Tryd.underlying42 Tryd.underlying5 Tryd.underlying9 ?_
    intro j hj
    have hadd : (⟨g, 0, none⟩ : Addr).add j = ⟨g, j, none⟩ := by unfold Addr.add; split <;> simp_all
    rw [hadd]
    exact (owned_cells h j _ (by simp [byteVals, hj])).1
/-- A row of bytes that a call owns, in a world that has grown since. -/
def BufAt (B : Nat) (acc : List UInt8) (v : Value) (w w' : World) : Prop := w'.ownsRow B 5 1 v acc.length (byteVals acc) ∧ Below B w w'
theorem BufAt.snoc {B : Nat} {acc : List UInt8} {v v' : Value} {w wr w3 : World} {c : UInt8} {o : Obj} (h : BufAt B acc v w wr) (hB : B ≤ wr.heap.size) (ho : w3.ownsRow B 5 1 v' (acc.length + 1) (byteVals acc ++ [.int .u8 (c.toNat : Int)])) (hg : (wr.alloc o).grownBy w3 v.ownBlock) : BufAt B (acc ++ [c]) v' w w3 := by
  refine ⟨?_, h.2.trans (below_append h.1 hB hg)⟩
  rw [byteVals_append, List.length_append]
  exact ho
theorem one_cell (c : UInt8) : ∀ u ∈ [Value.int .u8 (c.toNat : Int)], u.oneCell' = true := by
  intro u hu; simp at hu; subst hu; rfl

/-- Numbers that may be written. -/
def okN (n : Int) : Prop := -1152921504606846976 ≤ n ∧ n ≤ 1152921504606846976
theorem dbl_le {n : Int} (h : okN n) : dbl n ≤ 2305843009213693952 := by
  unfold okN at h; unfold dbl; split <;> omega

set_option maxHeartbeats 1000000 in
theorem doubled_calls (n : Int) (w : World) (h : okN n) : Calls Tryd.prog 52 #[.int .i64 n] w fun e w' => e = .returned (.int .u64 (dbl n : Int)) ∧ w = w' := by
  unfold okN at h
  by_cases h0 : n < 0
  · have HE : Hid ((dbl n : Int) = 2 * (-n) - 1) := by show _ = _; unfold dbl; rw [if_pos h0]; omega
    go_enter Tryd.func52, Tryd.ntmps52
    go_wp2
    go_ret
    exact ⟨ret_int (by rw [HE.out]), rfl⟩
  · have HE : Hid ((dbl n : Int) = 2 * n) := by show _ = _; unfold dbl; rw [if_neg h0]; omega
    go_enter Tryd.func52, Tryd.ntmps52
    go_wp2
    go_ret
    exact ⟨ret_int (by rw [HE.out]), rfl⟩
end Go.Proofs.YtignpgoicoojiaaDoor
