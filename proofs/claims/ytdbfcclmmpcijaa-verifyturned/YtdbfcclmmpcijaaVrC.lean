/-
  The walks of begins (of an origin, of a register), follows, comesBy.
-/
import Derived.Test.YtdbfcclmmpcijaaVrB
import Derived.Test.YtdbfcclmmpcijaaVrA
namespace Go.Proofs.Ytdbfcclmmpcijaa
open Go.RowKit

theorem obegins_calls (d p t : Int) (w : World) : Calls Try.prog 58 #[.agg #[.int .i64 d, .int .i64 p, .int .i64 t]] w fun e w' => e = .returned (.bool (orB d)) ∧ Below w.heap.size w w' := by
  obtain ⟨r1, h1⟩ : ∃ r, (d == 0) = r := ⟨_, rfl⟩
  obtain ⟨r2, h2⟩ : ∃ r, (d == 1) = r := ⟨_, rfl⟩
  have HE : Hid (orB d = (r1 || r2)) := by show _ = _; rw [orB, h1, h2]
  cases r1 <;> (go_enter Try.func58, Try.ntmps58; go_wp2; go_ret; exact ⟨ret_bool (by rw [HE.out]; simp), below_new _⟩)

theorem Lk.ways {w0 w : World} {b : Nat} {c : Cd} {s : Ls} {S : St} {wv : Nat → Value} (h : Lk w0 w b c s S wv) {k : Nat} (hk : k < 16) :
    ∃ ao cap, wv k = .slice ao (S.regs k).ways.length cap ∧ w.cell? ⟨b, 10 + k * 7 + 5, none⟩ = some (.slice ao (S.regs k).ways.length cap) ∧ QdsAt w ao (S.regs k).ways.length (S.regs k).ways := by
  have hr := h.rows k hk
  obtain ⟨ao, cap, e⟩ := owned_shape hr
  refine ⟨ao, cap, e, by rw [h.r5 hk, e], ?_⟩
  rw [e] at hr
  exact qds_owned hr

set_option maxHeartbeats 1000000 in
theorem begins_calls {w0 w : World} {b : Nat} {c : Cd} {s : Ls} {S : St} {wv : Nat → Value} (h : Lk w0 w b c s S wv) {k : Nat} (hk : k < 16) :
    Calls Try.prog 48 #[.pointer (some ⟨b, 10 + k * 7, none⟩)] w fun e w' => e = .returned (.bool (begB (S.regs k))) ∧ Below w.heap.size w w' := by
  obtain ⟨ao, cap, _, r5, hq⟩ := h.ways hk
  have r1 := h.r1 hk
  have r2 := h.r2 hk
  have r3 := h.r3 hk
  have HB : Hid (begB (S.regs k) = (((S.regs k).ways.all fun x => orB x.2.1) && orB (S.regs k).kind)) := rfl
  have HL : Hid (Lk w0 w b c s S wv) := h
  clear h
  generalize (S.regs k).ways = l at *
  have hm := hq.short
  unfold maxLen at hm
  obtain ⟨n, hn⟩ : ∃ n, l.length = n := ⟨_, rfl⟩
  rw [hn] at r5 hq hm
  have HN : Hid (l.length = n) := hn
  have HQ : Hid (QdsAt w ao n l) := hq
  clear hn hq
  go_enter Try.func48, Try.ntmps48
  go_wp2
  go_loopw [4, 10] (fun _ i wr => ∃ j : Nat, j ≤ n ∧ i = .int .i64 j ∧ (∀ (m : Nat) (q : Qd), m < j → l[m]? = some q → orB q.2.1 = true) ∧ Below w.heap.size w wr) (fun _ i _ => n - (intOf i).toNat)
  case atStart => exact ⟨0, Nat.zero_le _, rfl, fun m q hm => by omega, Below.refl _ _⟩
  case round =>
    obtain ⟨j, hj, rfl, hall, hbx⟩ := hrel
    have HA : Hid (∀ (m : Nat) (q : Qd), m < j → l[m]? = some q → orB q.2.1 = true) := hall
    have HX : Hid (Below w.heap.size w wr) := hbx
    clear hall hbx
    by_cases hlt : j < n
    · obtain ⟨q, hq⟩ := get_lt (l := l) (k := j) (by rw [HN.out]; exact hlt)
      obtain ⟨bb, off, rfl, hcs⟩ := (HQ.out.below HX.out).cells (by omega)
      obtain ⟨c1, c2, c3, c4⟩ := hcs j q hq
      have HG : Hid (l[j]? = some q) := hq
      clear hcs hq r1 r2 r3 r5
      obtain ⟨o, x, y, z⟩ := q
      simp only at c1 c2 c3 c4
      obtain ⟨r, hr⟩ : ∃ r, orB x = r := ⟨_, rfl⟩
      have HR : Hid (orB x = r) := hr
      clear hr
      go_wp2_with fail
      refine (obegins_calls _ _ _ _).mono ?_
      rintro e w' ⟨rfl, hb⟩
      rw [HR.out]
      have HX2 : Hid (Below w.heap.size w w') := (HX.out.alloc HX.out.size _).trans (hb.mono (Nat.le_trans HX.out.size (by simp)))
      clear hb
      cases r
      · go_wp2
        go_ret
        exact ⟨ret_bool (by rw [HB.out, all_bad' HG.out HR.out]; rfl), HX2.out⟩
      · go_wp2
        go_roundw
        case rel =>
          refine ⟨j + 1, by omega, by go_num, ?_, HX2.out⟩
          intro m q hm hmq
          by_cases e : m = j
          · subst e; rw [HG.out] at hmq; cases hmq; exact HR.out
          · exact HA.out m q (by omega) hmq
        case measure => simp [intOf]; omega
    · have HE : Hid ((l.all fun x => orB x.2.1) = true) := all_good' (fun m q hm => HA.out m q (by have := (List.getElem?_eq_some_iff.1 hm).1; rw [HN.out] at this; omega) hm)
      have d1 := (HL.out.next HX.out).r1 hk
      have d2 := (HL.out.next HX.out).r2 hk
      have d3 := (HL.out.next HX.out).r3 hk
      clear r1 r2 r3 r5
      go_wp2_with fail
      refine (obegins_calls _ _ _ _).mono ?_
      rintro e w' ⟨rfl, hb⟩
      go_wp2
      go_ret
      exact ⟨ret_bool (by rw [HB.out, HE.out]; rfl), HX.out.trans (hb.mono HX.out.size)⟩

theorem fields45 : Try.prog.underlying 45 = some (.struct (Try.prog.fieldsOf 45)) := by kernel_rfl
theorem held45 : Try.prog.stoodInHeld 45 = false := by kernel_rfl
theorem equal_o (x y z x2 y2 z2 : Int) (W : World) : (Op.equalIn 10000 45 (.agg #[.int .i64 x, .int .i64 y, .int .i64 z]) (.agg #[.int .i64 x2, .int .i64 y2, .int .i64 z2])).run Try.prog W = .ok (decide ((x, y, z) = (x2, y2, z2))) W := by
  rw [show (10000 : Nat) = 9999 + 1 from rfl, run_equalIn_agg W 9999 45 _ _ fields45 held45]
  simp only [Program.fieldsOf, Try.underlying45]
  go_simp
  by_cases h2 : x = x2 <;> by_cases h3 : y = y2 <;> by_cases h4 : z = z2 <;> simp [h2, h3, h4]
theorem guard45 : Try.prog.eqGuardType Try.prog.depth 45 = false := by kernel_rfl
set_option maxHeartbeats 1000000 in
theorem follows_calls (x a : Qd) (w : World) : Calls Try.prog 59 #[.agg #[.int .i64 x.1, .int .i64 x.2.1, .int .i64 x.2.2.1, .int .i64 x.2.2.2], .agg #[.int .i64 a.1, .int .i64 a.2.1, .int .i64 a.2.2.1, .int .i64 a.2.2.2]] w fun e w' => e = .returned (.bool (folB x a)) ∧ Below w.heap.size w w' := by
  obtain ⟨x0, x1, x2, x3⟩ := x
  obtain ⟨a0, a1, a2, a3⟩ := a
  have he := equal_o x1 x2 x3 2 a2 a3
  have hg := guard45
  obtain ⟨r1, h1⟩ : ∃ r, decide ((x1, x2, x3) = ((2 : Int), a2, a3)) = r := ⟨_, rfl⟩
  rw [h1] at he
  have HE : Hid (folB (x0, x1, x2, x3) (a0, a1, a2, a3) = (r1 && x0 == a1)) := by show _ = _; rw [folB, ← h1]
  clear h1
  simp only
  cases r1
  · go_enter Try.func59, Try.ntmps59
    go_wp2
    go_ret
    exact ⟨ret_bool (by rw [HE.out]; rfl), (below_new _).alloc (by simp) _⟩
  · go_enter Try.func59, Try.ntmps59
    go_wp2
    go_ret
    exact ⟨ret_bool (by rw [HE.out]; rfl), (below_new _).alloc (by simp) _⟩
end Go.Proofs.Ytdbfcclmmpcijaa
