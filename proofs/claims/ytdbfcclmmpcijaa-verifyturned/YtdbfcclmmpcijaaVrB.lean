/-
  The walks of weigh, write, loaded.
-/
import Derived.Test.YtdbfcclmmpcijaaVrM
import Derived.BigRegion
namespace Go.Proofs.Ytdbfcclmmpcijaa
open Go.RowKit

theorem Lk.r0 {w0 w : World} {b : Nat} {c : Cd} {s : Ls} {S : St} {wv : Nat → Value} (h : Lk w0 w b c s S wv) {k : Nat} (hk : k < 16) : w.cell? ⟨b, 10 + k * 7, none⟩ = some (.bool (S.regs k).wr) := h.reg k 0 hk (by omega) rfl
theorem Lk.r1 {w0 w : World} {b : Nat} {c : Cd} {s : Ls} {S : St} {wv : Nat → Value} (h : Lk w0 w b c s S wv) {k : Nat} (hk : k < 16) : w.cell? ⟨b, 10 + k * 7 + 1, none⟩ = some (.int .i64 (S.regs k).kind) := h.reg k 1 hk (by omega) rfl
theorem Lk.r2 {w0 w : World} {b : Nat} {c : Cd} {s : Ls} {S : St} {wv : Nat → Value} (h : Lk w0 w b c s S wv) {k : Nat} (hk : k < 16) : w.cell? ⟨b, 10 + k * 7 + 2, none⟩ = some (.int .i64 (S.regs k).plane) := h.reg k 2 hk (by omega) rfl
theorem Lk.r3 {w0 w : World} {b : Nat} {c : Cd} {s : Ls} {S : St} {wv : Nat → Value} (h : Lk w0 w b c s S wv) {k : Nat} (hk : k < 16) : w.cell? ⟨b, 10 + k * 7 + 3, none⟩ = some (.int .i64 (S.regs k).step) := h.reg k 3 hk (by omega) rfl
theorem Lk.r4 {w0 w : World} {b : Nat} {c : Cd} {s : Ls} {S : St} {wv : Nat → Value} (h : Lk w0 w b c s S wv) {k : Nat} (hk : k < 16) : w.cell? ⟨b, 10 + k * 7 + 4, none⟩ = some (.bool (S.regs k).met) := h.reg k 4 hk (by omega) rfl
theorem Lk.r5 {w0 w : World} {b : Nat} {c : Cd} {s : Ls} {S : St} {wv : Nat → Value} (h : Lk w0 w b c s S wv) {k : Nat} (hk : k < 16) : w.cell? ⟨b, 10 + k * 7 + 5, none⟩ = some (wv k) := h.reg k 5 hk (by omega) rfl
theorem Lk.r6 {w0 w : World} {b : Nat} {c : Cd} {s : Ls} {S : St} {wv : Nat → Value} (h : Lk w0 w b c s S wv) {k : Nat} (hk : k < 16) : w.cell? ⟨b, 10 + k * 7 + 6, none⟩ = some (.int .i64 (S.regs k).weight) := h.reg k 6 hk (by omega) rfl

set_option maxHeartbeats 1000000 in
theorem weigh_calls {w0 w : World} {b : Nat} {c : Cd} {s : Ls} {S : St} {wv : Nat → Value} (h : Lk w0 w b c s S wv) (n : Int) :
    Calls Try.prog 52 #[.pointer (some ⟨b, 0, none⟩), .int .i64 n] w fun e w' => e = .returned (.tuple #[]) ∧ Lk w0 w' b c s (weighP S n) wv ∧ Below b w w' := by
  have HL : Hid (Lk w0 w b c s S wv) := h
  have ct := h.top
  have fz := h.fz 142
  clear h
  go_enter Try.func52, Try.ntmps52
  go_wp2
  all_goals
    go_end0
    exact ⟨rfl, HL.out.weigh n (by omega), HL.out.below_put _ _⟩
set_option maxHeartbeats 1000000 in
theorem write_calls {w0 w : World} {b : Nat} {c : Cd} {s : Ls} {S : St} {wv : Nat → Value} (h : Lk w0 w b c s S wv) (k : Nat) (hk : k < 16) (q : Bool) (d p t : Int) (m : Bool) (g : Int) :
    Calls Try.prog 50 #[.pointer (some ⟨b, 0, none⟩), .int .i64 k, .agg #[.bool q, .int .i64 d, .int .i64 p, .int .i64 t, .bool m, .slice none 0 0, .int .i64 g]] w fun e w' => e = .returned (.tuple #[]) ∧ (∃ wv', Lk w0 w' b c s (writeP S k ⟨q, d, p, t, m, [], g⟩) wv') ∧ Below b w w' := by
  have HL : Hid (Lk w0 w b c s S wv) := h
  have hlt := h.lt
  have r0 := h.r0 hk
  have r1 := h.r1 hk
  have r2 := h.r2 hk
  have r3 := h.r3 hk
  have r4 := h.r4 hk
  have r5 := h.r5 hk
  have r6 := h.r6 hk
  have fz := h.fz
  clear h
  go_enter Try.func50, Try.ntmps50
  go_wp2_with fail
  go_region
  go_wp2_with fail
  refine (weigh_calls (((HL.out.write hk true d p t m g).alloc _).drewN 1) g).mono ?_
  rintro e w2 ⟨rfl, hl, hb⟩
  go_wp2
  go_end0
  exact ⟨rfl, ⟨_, hl⟩, ((below_drewN ((HL.out.below7 _ _ _ _ _ _ _ _ _ _ _ _ _ _).alloc (by simp; omega) _) 1).trans hb)⟩
theorem ret_agg {a b : Array Value} (h : a = b) : Ending.returned (.agg a) = .returned (.agg b) := by rw [h]
def rgAgg (r : Rg) : Array Value := #[.bool r.wr, .int .i64 r.kind, .int .i64 r.plane, .int .i64 r.step, .bool r.met, .slice none 0 0, .int .i64 r.weight]
set_option maxHeartbeats 1000000 in
theorem loaded_calls {w0 w : World} {b : Nat} {c : Cd} {s : Ls} {S : St} {wv : Nat → Value} (h : Lk w0 w b c s S wv) (p : Nat) (hp : p < 10) (t : Int) :
    Calls Try.prog 51 #[.pointer (some ⟨b, 0, none⟩), .int .i64 p, .int .i64 t] w fun e w' => e = .returned (.agg (rgAgg (loadB S p t))) ∧ Below w.heap.size w w' := by
  have hres : Try.f51.results = #[.cell 6 48] := by kernel_rfl
  have hlt := h.lt
  have c1 := h.pl1 p hp
  clear h
  by_cases ht : t = 0
  · have hE : Hid (rgAgg (loadB S p t) = #[.bool false, .int .i64 3, .int .i64 0, .int .i64 0, .bool false, .slice none 0 0, .int .i64 (S.pl p).2]) := by
      show _ = _
      rw [loadB, if_pos ht]; rfl
    have hd : (t == 0) = true := by simp [ht]
    clear ht
    go_enter Try.func51, Try.ntmps51
    go_wp2
    refine bodyPost_ret (v := .agg #[.bool false, .int .i64 3, .int .i64 0, .int .i64 0, .bool false, .slice none 0 0, .int .i64 (S.pl p).2]) ?_ rfl ⟨ret_agg hE.out.symm, below_new _⟩
    simp only [results, hres]
    go_simp
  · have hE : Hid (rgAgg (loadB S p t) = #[.bool false, .int .i64 2, .int .i64 p, .int .i64 t, .bool false, .slice none 0 0, .int .i64 0]) := by
      show _ = _
      rw [loadB, if_neg ht]; rfl
    have hd : (t == 0) = false := by simp [ht]
    clear ht
    go_enter Try.func51, Try.ntmps51
    go_wp2
    refine bodyPost_ret (v := .agg #[.bool false, .int .i64 2, .int .i64 p, .int .i64 t, .bool false, .slice none 0 0, .int .i64 0]) ?_ rfl ⟨ret_agg hE.out.symm, below_new _⟩
    simp only [results, hres]
    go_simp
end Go.Proofs.Ytdbfcclmmpcijaa
