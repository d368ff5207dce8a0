/-
  The walks of weigh, write, loaded. The walks of begins (of an origin, of a register), follows, comesBy. The walk of comesBy.
-/
import Derived.BigRegion
import Derived.WalkMore
import Derived.Deep.LoopGhost
import Derived.Test.YtnkfibahkmmnpaaGreatVrM
import Derived.Test.YtnkfibahkmmnpaaGreatVrA
namespace Go.Proofs.YtnkfibahkmmnpaaGreat
open Go.RowKit

theorem Lk.r0 {w0 w : World} {b : Nat} {c : Cd} {s : Ls} {S : St} {wv : Nat → Value} (h : Lk w0 w b c s S wv) {k : Nat} (hk : k < 16) : w.cell? ⟨b, 10 + k * 7, none⟩ = some (.bool (S.regs k).wr) := h.reg k 0 hk (by omega) rfl
theorem Lk.r1 {w0 w : World} {b : Nat} {c : Cd} {s : Ls} {S : St} {wv : Nat → Value} (h : Lk w0 w b c s S wv) {k : Nat} (hk : k < 16) : w.cell? ⟨b, 10 + k * 7 + 1, none⟩ = some (.int .i64 (S.regs k).kind) := h.reg k 1 hk (by omega) rfl
theorem Lk.r2 {w0 w : World} {b : Nat} {c : Cd} {s : Ls} {S : St} {wv : Nat → Value} (h : Lk w0 w b c s S wv) {k : Nat} (hk : k < 16) : w.cell? ⟨b, 10 + k * 7 + 2, none⟩ = some (.int .i64 (S.regs k).plane) := h.reg k 2 hk (by omega) rfl
theorem Lk.r3 {w0 w : World} {b : Nat} {c : Cd} {s : Ls} {S : St} {wv : Nat → Value} (h : Lk w0 w b c s S wv) {k : Nat} (hk : k < 16) : w.cell? ⟨b, 10 + k * 7 + 3, none⟩ = some (.int .i64 (S.regs k).step) := h.reg k 3 hk (by omega) rfl
theorem Lk.r4 {w0 w : World} {b : Nat} {c : Cd} {s : Ls} {S : St} {wv : Nat → Value} (h : Lk w0 w b c s S wv) {k : Nat} (hk : k < 16) : w.cell? ⟨b, 10 + k * 7 + 4, none⟩ = some (.bool (S.regs k).met) := h.reg k 4 hk (by omega) rfl
theorem Lk.r5 {w0 w : World} {b : Nat} {c : Cd} {s : Ls} {S : St} {wv : Nat → Value} (h : Lk w0 w b c s S wv) {k : Nat} (hk : k < 16) : w.cell? ⟨b, 10 + k * 7 + 5, none⟩ = some (wv k) := h.reg k 5 hk (by omega) rfl
theorem Lk.r6 {w0 w : World} {b : Nat} {c : Cd} {s : Ls} {S : St} {wv : Nat → Value} (h : Lk w0 w b c s S wv) {k : Nat} (hk : k < 16) : w.cell? ⟨b, 10 + k * 7 + 6, none⟩ = some (.int .i64 (S.regs k).weight) := h.reg k 6 hk (by omega) rfl

set_option maxHeartbeats 1000000 in
theorem weigh_calls {w0 w : World} {b : Nat} {c : Cd} {s : Ls} {S : St} {wv : Nat → Value} (h : Lk w0 w b c s S wv) (n : Int) :
    Calls Tryz.prog 105 #[.pointer (some ⟨b, 0, none⟩), .int .i64 n] w fun e w' => e = .returned (.tuple #[]) ∧ Lk w0 w' b c s (weighP S n) wv ∧ Below b w w' := by
  have HL : Hid (Lk w0 w b c s S wv) := h
  have ct := h.top
  have fz := h.fz 142
  clear h
  go_enter Tryz.func105, Tryz.ntmps105
  go_wp2
  all_goals
    go_end0
    exact ⟨rfl, HL.out.weigh n (by omega), HL.out.below_put _ _⟩
set_option maxHeartbeats 1000000 in
theorem write_calls {w0 w : World} {b : Nat} {c : Cd} {s : Ls} {S : St} {wv : Nat → Value} (h : Lk w0 w b c s S wv) (k : Nat) (hk : k < 16) (q : Bool) (d p t : Int) (m : Bool) (g : Int) :
    Calls Tryz.prog 103 #[.pointer (some ⟨b, 0, none⟩), .int .i64 k, .agg #[.bool q, .int .i64 d, .int .i64 p, .int .i64 t, .bool m, .slice none 0 0, .int .i64 g]] w fun e w' => e = .returned (.tuple #[]) ∧ (∃ wv', Lk w0 w' b c s (writeP S k ⟨q, d, p, t, m, [], g⟩) wv') ∧ Below b w w' := by
  have HL : Hid (Lk w0 w b c s S wv) := h
  have hlt := h.lt
  have r0 := h.r0 hk
  have r1 := h.r1 hk
  have r2 := h.r2 hk
  have r3 := h.r3 hk
  have r4 := h.r4 hk
  have r5 := h.r5 hk
  have r6 := h.r6 hk
  have fz := h.fz
  clear h
  go_enter Tryz.func103, Tryz.ntmps103
  go_wp2_with fail
  go_region
  go_wp2_with fail
  refine (weigh_calls (((HL.out.write hk true d p t m g).alloc _).drewN 1) g).mono ?_
  rintro e w2 ⟨rfl, hl, hb⟩
  go_wp2
  go_end0
  exact ⟨rfl, ⟨_, hl⟩, ((below_drewN ((HL.out.below7 _ _ _ _ _ _ _ _ _ _ _ _ _ _).alloc (by simp; omega) _) 1).trans hb)⟩
theorem ret_agg {a b : Array Value} (h : a = b) : Ending.returned (.agg a) = .returned (.agg b) := by rw [h]
def rgAgg (r : Rg) : Array Value := #[.bool r.wr, .int .i64 r.kind, .int .i64 r.plane, .int .i64 r.step, .bool r.met, .slice none 0 0, .int .i64 r.weight]
set_option maxHeartbeats 1000000 in
theorem loaded_calls {w0 w : World} {b : Nat} {c : Cd} {s : Ls} {S : St} {wv : Nat → Value} (h : Lk w0 w b c s S wv) (p : Nat) (hp : p < 10) (t : Int) :
    Calls Tryz.prog 104 #[.pointer (some ⟨b, 0, none⟩), .int .i64 p, .int .i64 t] w fun e w' => e = .returned (.agg (rgAgg (loadB S p t))) ∧ Below w.heap.size w w' := by
  have hres : Tryz.f104.results = #[.cell 6 122] := by kernel_rfl
  have hlt := h.lt
  have c1 := h.pl1 p hp
  clear h
  by_cases ht : t = 0
  · have hE : Hid (rgAgg (loadB S p t) = #[.bool false, .int .i64 3, .int .i64 0, .int .i64 0, .bool false, .slice none 0 0, .int .i64 (S.pl p).2]) := by
      show _ = _
      rw [loadB, if_pos ht]; rfl
    have hd : (t == 0) = true := by simp [ht]
    clear ht
    go_enter Tryz.func104, Tryz.ntmps104
    go_wp2
    refine bodyPost_ret (v := .agg #[.bool false, .int .i64 3, .int .i64 0, .int .i64 0, .bool false, .slice none 0 0, .int .i64 (S.pl p).2]) ?_ rfl ⟨ret_agg hE.out.symm, below_new _⟩
    simp only [results, hres]
    go_simp
  · have hE : Hid (rgAgg (loadB S p t) = #[.bool false, .int .i64 2, .int .i64 p, .int .i64 t, .bool false, .slice none 0 0, .int .i64 0]) := by
      show _ = _
      rw [loadB, if_neg ht]; rfl
    have hd : (t == 0) = false := by simp [ht]
    clear ht
    go_enter Tryz.func104, Tryz.ntmps104
    go_wp2
    refine bodyPost_ret (v := .agg #[.bool false, .int .i64 2, .int .i64 p, .int .i64 t, .bool false, .slice none 0 0, .int .i64 0]) ?_ rfl ⟨ret_agg hE.out.symm, below_new _⟩
    simp only [results, hres]
    go_simp
end Go.Proofs.YtnkfibahkmmnpaaGreat
namespace Go.Proofs.YtnkfibahkmmnpaaGreat
open Go.RowKit

theorem obegins_calls (d p t : Int) (w : World) : Calls Tryz.prog 111 #[.agg #[.int .i64 d, .int .i64 p, .int .i64 t]] w fun e w' => e = .returned (.bool (orB d)) ∧ Below w.heap.size w w' := by
  obtain ⟨r1, h1⟩ : ∃ r, (d == 0) = r := ⟨_, rfl⟩
  obtain ⟨r2, h2⟩ : ∃ r, (d == 1) = r := ⟨_, rfl⟩
  have HE : Hid (orB d = (r1 || r2)) := by show _ = _; rw [orB, h1, h2]
  cases r1 <;> (go_enter Tryz.func111, Tryz.ntmps111; go_wp2; go_ret; exact ⟨ret_bool (by rw [HE.out]; simp), below_new _⟩)

theorem Lk.ways {w0 w : World} {b : Nat} {c : Cd} {s : Ls} {S : St} {wv : Nat → Value} (h : Lk w0 w b c s S wv) {k : Nat} (hk : k < 16) :
    ∃ ao cap, wv k = .slice ao (S.regs k).ways.length cap ∧ w.cell? ⟨b, 10 + k * 7 + 5, none⟩ = some (.slice ao (S.regs k).ways.length cap) ∧ QdsAt w ao (S.regs k).ways.length (S.regs k).ways := by
  have hr := h.rows k hk
  obtain ⟨ao, cap, e⟩ := owned_shape hr
  refine ⟨ao, cap, e, by rw [h.r5 hk, e], ?_⟩
  rw [e] at hr
  exact qds_owned hr

set_option maxHeartbeats 1000000 in
theorem begins_calls {w0 w : World} {b : Nat} {c : Cd} {s : Ls} {S : St} {wv : Nat → Value} (h : Lk w0 w b c s S wv) {k : Nat} (hk : k < 16) :
    Calls Tryz.prog 101 #[.pointer (some ⟨b, 10 + k * 7, none⟩)] w fun e w' => e = .returned (.bool (begB (S.regs k))) ∧ Below w.heap.size w w' := by
  obtain ⟨ao, cap, _, r5, hq⟩ := h.ways hk
  have r1 := h.r1 hk
  have r2 := h.r2 hk
  have r3 := h.r3 hk
  have HB : Hid (begB (S.regs k) = (((S.regs k).ways.all fun x => orB x.2.1) && orB (S.regs k).kind)) := rfl
  have HL : Hid (Lk w0 w b c s S wv) := h
  clear h
  generalize (S.regs k).ways = l at *
  have hm := hq.short
  unfold maxLen at hm
  obtain ⟨n, hn⟩ : ∃ n, l.length = n := ⟨_, rfl⟩
  rw [hn] at r5 hq hm
  have HN : Hid (l.length = n) := hn
  have HQ : Hid (QdsAt w ao n l) := hq
  clear hn hq
  go_enter Tryz.func101, Tryz.ntmps101
  go_wp2
  go_loopw [4, 10] (fun _ i wr => ∃ j : Nat, j ≤ n ∧ i = .int .i64 j ∧ (∀ (m : Nat) (q : Qd), m < j → l[m]? = some q → orB q.2.1 = true) ∧ Below w.heap.size w wr) (fun _ i _ => n - (intOf i).toNat)
  case atStart => exact ⟨0, Nat.zero_le _, rfl, fun m q hm => by omega, Below.refl _ _⟩
  case round =>
    obtain ⟨j, hj, rfl, hall, hbx⟩ := hrel
    have HA : Hid (∀ (m : Nat) (q : Qd), m < j → l[m]? = some q → orB q.2.1 = true) := hall
    have HX : Hid (Below w.heap.size w wr) := hbx
    clear hall hbx
    by_cases hlt : j < n
    · obtain ⟨q, hq⟩ := get_lt (l := l) (k := j) (by rw [HN.out]; exact hlt)
      obtain ⟨bb, off, rfl, hcs⟩ := (HQ.out.below HX.out).cells (by omega)
      obtain ⟨c1, c2, c3, c4⟩ := hcs j q hq
      have HG : Hid (l[j]? = some q) := hq
      clear hcs hq r1 r2 r3 r5
      obtain ⟨o, x, y, z⟩ := q
      simp only at c1 c2 c3 c4
      obtain ⟨r, hr⟩ : ∃ r, orB x = r := ⟨_, rfl⟩
      have HR : Hid (orB x = r) := hr
      clear hr
      go_wp2_with fail
      refine (obegins_calls _ _ _ _).mono ?_
      rintro e w' ⟨rfl, hb⟩
      rw [HR.out]
      have HX2 : Hid (Below w.heap.size w w') := (HX.out.alloc HX.out.size _).trans (hb.mono (Nat.le_trans HX.out.size (by simp)))
      clear hb
      cases r
      · go_wp2
        go_ret
        exact ⟨ret_bool (by rw [HB.out, all_bad' HG.out HR.out]; rfl), HX2.out⟩
      · go_wp2
        go_roundw
        case rel =>
          refine ⟨j + 1, by omega, by go_num, ?_, HX2.out⟩
          intro m q hm hmq
          by_cases e : m = j
          · subst e; rw [HG.out] at hmq; cases hmq; exact HR.out
          · exact HA.out m q (by omega) hmq
        case measure => simp [intOf]; omega
    · have HE : Hid ((l.all fun x => orB x.2.1) = true) := all_good' (fun m q hm => HA.out m q (by have := (List.getElem?_eq_some_iff.1 hm).1; rw [HN.out] at this; omega) hm)
      have d1 := (HL.out.next HX.out).r1 hk
      have d2 := (HL.out.next HX.out).r2 hk
      have d3 := (HL.out.next HX.out).r3 hk
      clear r1 r2 r3 r5
      go_wp2_with fail
      refine (obegins_calls _ _ _ _).mono ?_
      rintro e w' ⟨rfl, hb⟩
      go_wp2
      go_ret
      exact ⟨ret_bool (by rw [HB.out, HE.out]; rfl), HX.out.trans (hb.mono HX.out.size)⟩

theorem fields45 : Tryz.prog.underlying 119 = some (.struct (Tryz.prog.fieldsOf 119)) := by kernel_rfl
theorem held45 : Tryz.prog.stoodInHeld 119 = false := by kernel_rfl
theorem equal_o (x y z x2 y2 z2 : Int) (W : World) : (Op.equalIn 10000 119 (.agg #[.int .i64 x, .int .i64 y, .int .i64 z]) (.agg #[.int .i64 x2, .int .i64 y2, .int .i64 z2])).run Tryz.prog W = .ok (decide ((x, y, z) = (x2, y2, z2))) W := by
  rw [show (10000 : Nat) = 9999 + 1 from rfl, run_equalIn_agg W 9999 119 _ _ fields45 held45]
  simp only [Program.fieldsOf, Tryz.underlying119]
  go_simp
  by_cases h2 : x = x2 <;> by_cases h3 : y = y2 <;> by_cases h4 : z = z2 <;> simp [h2, h3, h4]
theorem guard45 : Tryz.prog.eqGuardType Tryz.prog.depth 119 = false := by kernel_rfl
set_option maxHeartbeats 1000000 in
theorem follows_calls (x a : Qd) (w : World) : Calls Tryz.prog 112 #[.agg #[.int .i64 x.1, .int .i64 x.2.1, .int .i64 x.2.2.1, .int .i64 x.2.2.2], .agg #[.int .i64 a.1, .int .i64 a.2.1, .int .i64 a.2.2.1, .int .i64 a.2.2.2]] w fun e w' => e = .returned (.bool (folB x a)) ∧ Below w.heap.size w w' := by
  obtain ⟨x0, x1, x2, x3⟩ := x
  obtain ⟨a0, a1, a2, a3⟩ := a
  have he := equal_o x1 x2 x3 2 a2 a3
  have hg := guard45
  obtain ⟨r1, h1⟩ : ∃ r, decide ((x1, x2, x3) = ((2 : Int), a2, a3)) = r := ⟨_, rfl⟩
  rw [h1] at he
  have HE : Hid (folB (x0, x1, x2, x3) (a0, a1, a2, a3) = (r1 && x0 == a1)) := by show _ = _; rw [folB, ← h1]
  clear h1
  simp only
  cases r1
  · go_enter Tryz.func112, Tryz.ntmps112
    go_wp2
    go_ret
    exact ⟨ret_bool (by rw [HE.out]; rfl), (below_new _).alloc (by simp) _⟩
  · go_enter Tryz.func112, Tryz.ntmps112
    go_wp2
    go_ret
    exact ⟨ret_bool (by rw [HE.out]; rfl), (below_new _).alloc (by simp) _⟩
end Go.Proofs.YtnkfibahkmmnpaaGreat
namespace Go.Proofs.YtnkfibahkmmnpaaGreat
open Go.RowKit

theorem any_good' {α : Type} {f : α → Bool} {l : List α} {k : Nat} {q : α} (h : l[k]? = some q) (hf : f q = true) : l.any f = true :=
  List.any_eq_true.2 ⟨q, List.mem_of_getElem? h, hf⟩
theorem any_bad' {α : Type} {f : α → Bool} {l : List α} (h : ∀ (j : Nat) (q : α), l[j]? = some q → f q = false) : l.any f = false := by
  cases e : l.any f with
  | false => rfl
  | true =>
    obtain ⟨q, hq, hf⟩ := List.any_eq_true.1 e
    obtain ⟨j, hj, rfl⟩ := List.getElem_of_mem hq
    rw [h j _ (List.getElem?_eq_getElem hj)] at hf; cases hf

set_option maxHeartbeats 2000000 in
theorem comesBy_calls {w0 w : World} {b : Nat} {c : Cd} {s : Ls} {S : St} {wv : Nat → Value} (h : Lk w0 w b c s S wv) {k : Nat} (hk : k < 16) (p : Int) (aa : Option Addr) (an ac : Nat) (ar : List Qd) (har : QdsAt w aa an ar) :
    Calls Tryz.prog 102 #[.pointer (some ⟨b, 10 + k * 7, none⟩), .int .i64 p, .slice aa an ac] w fun e w' => e = .returned (.bool (comB (S.regs k) p ar)) ∧ Below w.heap.size w w' := by
  obtain ⟨ao, cap, _, r5, hq⟩ := h.ways hk
  have r1 := h.r1 hk
  have HB : Hid (comB (S.regs k) p ar = ((S.regs k).kind == 0 && (S.regs k).ways.all fun x => ar.any fun a => a.1 == p && folB x a)) := rfl
  clear h
  generalize (S.regs k).ways = l at *
  generalize (S.regs k).kind = kd at *
  have hm := hq.short
  unfold maxLen at hm
  have hma := har.short
  unfold maxLen at hma
  obtain ⟨n, hn⟩ : ∃ n, l.length = n := ⟨_, rfl⟩
  rw [hn] at r5 hq hm
  have HN : Hid (l.length = n) := hn
  have HQ : Hid (QdsAt w ao n l) := hq
  have HA0 : Hid (QdsAt w aa an ar) := har
  clear hn hq har
  by_cases hkd : kd = 0
  · have hd : (kd != 0) = false := by simp [hkd]
    have HK : Hid ((kd == 0) = true) := by show _ = _; simp [hkd]
    clear hkd
    go_enter Tryz.func102, Tryz.ntmps102
    go_wp2
    go_step3
    go_wp2
    go_step3
    go_wp2
    go_loopg [8, 10, 22] n (fun g _ _ i wr => ∃ j : Nat, j + g = n ∧ i = .int .i64 j ∧ (∀ (m : Nat) (q : Qd), m < j → l[m]? = some q → (ar.any fun a => a.1 == p && folB q a) = true) ∧ Below w.heap.size w wr)
    case atStart => exact ⟨0, Nat.zero_add _, rfl, fun m q hm => by omega, Below.refl _ _⟩
    case round =>
      obtain ⟨j, hj, rfl, hall, hbx⟩ := hrel
      have HA : Hid (∀ (m : Nat) (q : Qd), m < j → l[m]? = some q → (ar.any fun a => a.1 == p && folB q a) = true) := hall
      have HX : Hid (Below w.heap.size w wr) := hbx
      clear hall hbx
      by_cases hlt : j < n
      · have hdlt : decide ((j : Int) < (n : Int)) = true := by simpa using hlt
        obtain ⟨q, hq⟩ := get_lt (l := l) (k := j) (by rw [HN.out]; exact hlt)
        obtain ⟨bb, off, rfl, hcs⟩ := (HQ.out.below HX.out).cells (by omega)
        obtain ⟨c1, c2, c3, c4⟩ := hcs j q hq
        have HG : Hid (l[j]? = some q) := hq
        clear hcs hq r1 r5
        obtain ⟨o, x, y, z⟩ := q
        simp only at c1 c2 c3 c4
        go_wp2
        obtain ⟨wo, hwo⟩ : ∃ wo, wo = wr := ⟨_, rfl⟩
        have HXo : Hid (Below w.heap.size w wo) := by rw [hwo]; exact HX.out
        clear HX c1 c2 c3 c4
        rw [← hwo]
        clear hwo
        obtain ⟨gO, rfl⟩ : ∃ gO, gO = gk := ⟨_, rfl⟩
        go_loopg [10, 28] an (fun g _ i wr => ∃ m : Nat, m + g = an ∧ i = .int .i64 m ∧ (∀ (t : Nat) (a : Qd), t < m → ar[t]? = some a → (a.1 == p && folB (o, x, y, z) a) = false) ∧ Below (wo.heap.size + 1) (wo.alloc (.cells #[.int .i64 o, .int .i64 x, .int .i64 y, .int .i64 z] 180)) wr)
        case atStart => exact ⟨0, Nat.zero_add _, rfl, fun m q hm => by omega, Below.refl _ _⟩
        case round =>
          obtain ⟨m, hm2, rfl, hall, hbx⟩ := hrel
          have HI : Hid (∀ (t : Nat) (a : Qd), t < m → ar[t]? = some a → (a.1 == p && folB (o, x, y, z) a) = false) := hall
          have HY : Hid (Below (wo.heap.size + 1) (wo.alloc (.cells #[.int .i64 o, .int .i64 x, .int .i64 y, .int .i64 z] 180)) wr) := hbx
          have HZ : Hid (Below w.heap.size w wr) := (HXo.out.alloc HXo.out.size _).trans (hbx.mono (by have := HXo.out.size; omega))
          clear hall hbx
          by_cases hlm : m < an
          · obtain ⟨a, ha⟩ := get_lt (l := ar) (k := m) (by rw [HA0.out.length]; exact hlm)
            obtain ⟨bc, ofc, rfl, hcs⟩ := (HA0.out.below HZ.out).cells (by omega)
            obtain ⟨e1, e2, e3, e4⟩ := hcs m a ha
            have HGa : Hid (ar[m]? = some a) := ha
            clear hcs ha
            obtain ⟨a0, a1, a2, a3⟩ := a
            simp only at e1 e2 e3 e4
            have hsz : wo.heap.size < wr.heap.size := by have := HY.out.size; simp at this; omega
            have key : ∀ i v, (#[Value.int .i64 o, .int .i64 x, .int .i64 y, .int .i64 z] : Array Value)[i]? = some v → wr.cell? ⟨wo.heap.size, i, none⟩ = some v := fun i v hv => cell_block (by rw [HY.out.block _ (by omega)]; exact heap_alloc_new wo _) i v hv
            have f1 := key 0 _ rfl
            have f2 := key 1 _ rfl
            have f3 := key 2 _ rfl
            have f4 := key 3 _ rfl
            clear key
            have hbb : ∀ w2, Below (wr.heap.size + 1) (wr.alloc (.cells #[.int .i64 a0, .int .i64 a1, .int .i64 a2, .int .i64 a3] 79)) w2 → Below (wo.heap.size + 1) (wo.alloc (.cells #[.int .i64 o, .int .i64 x, .int .i64 y, .int .i64 z] 180)) w2 ∧ Below w.heap.size w w2 := fun w2 h2 =>
              ⟨(HY.out.alloc (by omega) _).trans (h2.mono (by omega)), (HZ.out.alloc HZ.out.size _).trans (h2.mono (by have := HZ.out.size; omega))⟩
            have HBB : Hid (∀ w2, Below (wr.heap.size + 1) (wr.alloc (.cells #[.int .i64 a0, .int .i64 a1, .int .i64 a2, .int .i64 a3] 79)) w2 → Below (wo.heap.size + 1) (wo.alloc (.cells #[.int .i64 o, .int .i64 x, .int .i64 y, .int .i64 z] 180)) w2 ∧ Below w.heap.size w w2) := hbb
            clear hbb
            by_cases hp : a0 = p
            · have hpb : (a0 == p) = true := by simp [hp]
              obtain ⟨r, hr⟩ : ∃ r, folB (o, x, y, z) (a0, a1, a2, a3) = r := ⟨_, rfl⟩
              have HR : Hid (folB (o, x, y, z) (a0, a1, a2, a3) = r) := hr
              have HF : Hid ((a0 == p && folB (o, x, y, z) (a0, a1, a2, a3)) = r) := by show _ = _; rw [hpb, hr]; rfl
              clear hp hr
              go_wp2_with fail
              refine (follows_calls (o, x, y, z) (a0, a1, a2, a3) _).mono ?_
              rintro e w' ⟨rfl, hb⟩
              rw [HR.out]
              have HV : Hid (Below (wo.heap.size + 1) (wo.alloc (.cells #[.int .i64 o, .int .i64 x, .int .i64 y, .int .i64 z] 180)) w' ∧ Below w.heap.size w w') := HBB.out w' (by simpa using hb)
              clear hb
              cases r
              · go_wp2
                go_roundg (gk - 1)
                case rel =>
                  refine ⟨m + 1, by omega, by go_num, ?_, HV.out.1⟩
                  intro t a ht hta
                  by_cases e : t = m
                  · subst e; rw [HGa.out] at hta; cases hta; exact HF.out
                  · exact HI.out t a (by omega) hta
                case measure => omega
              · go_wp2
                go_roundg (gO - 1)
                case rel =>
                  refine ⟨j + 1, by omega, by go_num, ?_, HV.out.2⟩
                  intro t q ht htq
                  by_cases e : t = j
                  · subst e; rw [HG.out] at htq; cases htq; exact any_good' HGa.out HF.out
                  · exact HA.out t q (by omega) htq
                case measure => omega
            · have hpb : (a0 == p) = false := by simp [hp]
              have HF : Hid ((a0 == p && folB (o, x, y, z) (a0, a1, a2, a3)) = false) := by show _ = _; rw [hpb]; rfl
              clear hp
              go_wp2
              go_roundg (gk - 1)
              case rel =>
                refine ⟨m + 1, by omega, by go_num, ?_, (HBB.out _ (Below.refl _ _)).1⟩
                intro t a ht hta
                by_cases e : t = m
                · subst e; rw [HGa.out] at hta; cases hta; exact HF.out
                · exact HI.out t a (by omega) hta
              case measure => omega
          · have HE : Hid ((ar.any fun a => a.1 == p && folB (o, x, y, z) a) = false) := any_bad' (fun t a ht => HI.out t a (by have := (List.getElem?_eq_some_iff.1 ht).1; rw [HA0.out.length] at this; omega) ht)
            go_wp2
            try rw [Exit.noGoto_ret]
            go_ret
            exact ⟨ret_bool (by rw [HB.out, all_bad' HG.out HE.out]; simp), HZ.out⟩
      · have hdlt : decide ((j : Int) < (n : Int)) = false := by simp; omega
        have HE : Hid ((l.all fun x => ar.any fun a => a.1 == p && folB x a) = true) := all_good' (fun m q hm => HA.out m q (by have := (List.getElem?_eq_some_iff.1 hm).1; rw [HN.out] at this; omega) hm)
        go_wp2
        try rw [Exit.noGoto_ret]
        go_ret
        exact ⟨ret_bool (by rw [HB.out, HE.out, HK.out]; rfl), HX.out⟩
  · have hd : (kd != 0) = true := by simp [hkd]
    have HK : Hid ((kd == 0) = false) := by show _ = _; simp [hkd]
    clear hkd
    go_enter Tryz.func102, Tryz.ntmps102
    go_wp2
    go_step3
    go_wp2
    try rw [Exit.noGoto_ret]
    go_ret
    exact ⟨ret_bool (by rw [HB.out, HK.out]; rfl), Below.refl _ _⟩
end Go.Proofs.YtnkfibahkmmnpaaGreat
