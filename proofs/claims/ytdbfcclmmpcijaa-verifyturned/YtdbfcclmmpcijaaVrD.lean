/-
  The walk of comesBy.
-/
import Derived.Test.YtdbfcclmmpcijaaVrC
import Derived.WalkMore
import Derived.Deep.LoopGhost
namespace Go.Proofs.Ytdbfcclmmpcijaa
open Go.RowKit

theorem any_good' {α : Type} {f : α → Bool} {l : List α} {k : Nat} {q : α} (h : l[k]? = some q) (hf : f q = true) : l.any f = true :=
  List.any_eq_true.2 ⟨q, List.mem_of_getElem? h, hf⟩
theorem any_bad' {α : Type} {f : α → Bool} {l : List α} (h : ∀ (j : Nat) (q : α), l[j]? = some q → f q = false) : l.any f = false := by
  cases e : l.any f with
  | false => rfl
  | true =>
    obtain ⟨q, hq, hf⟩ := List.any_eq_true.1 e
    obtain ⟨j, hj, rfl⟩ := List.getElem_of_mem hq
    rw [h j _ (List.getElem?_eq_getElem hj)] at hf; cases hf

set_option maxHeartbeats 2000000 in
theorem comesBy_calls {w0 w : World} {b : Nat} {c : Cd} {s : Ls} {S : St} {wv : Nat → Value} (h : Lk w0 w b c s S wv) {k : Nat} (hk : k < 16) (p : Int) (aa : Option Addr) (an ac : Nat) (ar : List Qd) (har : QdsAt w aa an ar) :
    Calls Try.prog 49 #[.pointer (some ⟨b, 10 + k * 7, none⟩), .int .i64 p, .slice aa an ac] w fun e w' => e = .returned (.bool (comB (S.regs k) p ar)) ∧ Below w.heap.size w w' := by
  obtain ⟨ao, cap, _, r5, hq⟩ := h.ways hk
  have r1 := h.r1 hk
  have HB : Hid (comB (S.regs k) p ar = ((S.regs k).kind == 0 && (S.regs k).ways.all fun x => ar.any fun a => a.1 == p && folB x a)) := rfl
  clear h
  generalize (S.regs k).ways = l at *
  generalize (S.regs k).kind = kd at *
  have hm := hq.short
  unfold maxLen at hm
  have hma := har.short
  unfold maxLen at hma
  obtain ⟨n, hn⟩ : ∃ n, l.length = n := ⟨_, rfl⟩
  rw [hn] at r5 hq hm
  have HN : Hid (l.length = n) := hn
  have HQ : Hid (QdsAt w ao n l) := hq
  have HA0 : Hid (QdsAt w aa an ar) := har
  clear hn hq har
  by_cases hkd : kd = 0
  · have hd : (kd != 0) = false := by simp [hkd]
    have HK : Hid ((kd == 0) = true) := by show _ = _; simp [hkd]
    clear hkd
    go_enter Try.func49, Try.ntmps49
    go_wp2
    go_step3
    go_wp2
    go_step3
    go_wp2
    go_loopg [8, 10, 22] n (fun g _ _ i wr => ∃ j : Nat, j + g = n ∧ i = .int .i64 j ∧ (∀ (m : Nat) (q : Qd), m < j → l[m]? = some q → (ar.any fun a => a.1 == p && folB q a) = true) ∧ Below w.heap.size w wr)
    case atStart => exact ⟨0, Nat.zero_add _, rfl, fun m q hm => by omega, Below.refl _ _⟩
    case round =>
      obtain ⟨j, hj, rfl, hall, hbx⟩ := hrel
      have HA : Hid (∀ (m : Nat) (q : Qd), m < j → l[m]? = some q → (ar.any fun a => a.1 == p && folB q a) = true) := hall
      have HX : Hid (Below w.heap.size w wr) := hbx
      clear hall hbx
      by_cases hlt : j < n
      · have hdlt : decide ((j : Int) < (n : Int)) = true := by simpa using hlt
        obtain ⟨q, hq⟩ := get_lt (l := l) (k := j) (by rw [HN.out]; exact hlt)
        obtain ⟨bb, off, rfl, hcs⟩ := (HQ.out.below HX.out).cells (by omega)
        obtain ⟨c1, c2, c3, c4⟩ := hcs j q hq
        have HG : Hid (l[j]? = some q) := hq
        clear hcs hq r1 r5
        obtain ⟨o, x, y, z⟩ := q
        simp only at c1 c2 c3 c4
        go_wp2
        obtain ⟨wo, hwo⟩ : ∃ wo, wo = wr := ⟨_, rfl⟩
        have HXo : Hid (Below w.heap.size w wo) := by rw [hwo]; exact HX.out
        clear HX c1 c2 c3 c4
        rw [← hwo]
        clear hwo
        obtain ⟨gO, rfl⟩ : ∃ gO, gO = gk := ⟨_, rfl⟩
        go_loopg [10, 28] an (fun g _ i wr => ∃ m : Nat, m + g = an ∧ i = .int .i64 m ∧ (∀ (t : Nat) (a : Qd), t < m → ar[t]? = some a → (a.1 == p && folB (o, x, y, z) a) = false) ∧ Below (wo.heap.size + 1) (wo.alloc (.cells #[.int .i64 o, .int .i64 x, .int .i64 y, .int .i64 z] 93)) wr)
        case atStart => exact ⟨0, Nat.zero_add _, rfl, fun m q hm => by omega, Below.refl _ _⟩
        case round =>
          obtain ⟨m, hm2, rfl, hall, hbx⟩ := hrel
          have HI : Hid (∀ (t : Nat) (a : Qd), t < m → ar[t]? = some a → (a.1 == p && folB (o, x, y, z) a) = false) := hall
          have HY : Hid (Below (wo.heap.size + 1) (wo.alloc (.cells #[.int .i64 o, .int .i64 x, .int .i64 y, .int .i64 z] 93)) wr) := hbx
          have HZ : Hid (Below w.heap.size w wr) := (HXo.out.alloc HXo.out.size _).trans (hbx.mono (by have := HXo.out.size; omega))
          clear hall hbx
          by_cases hlm : m < an
          · obtain ⟨a, ha⟩ := get_lt (l := ar) (k := m) (by rw [HA0.out.length]; exact hlm)
            obtain ⟨bc, ofc, rfl, hcs⟩ := (HA0.out.below HZ.out).cells (by omega)
            obtain ⟨e1, e2, e3, e4⟩ := hcs m a ha
            have HGa : Hid (ar[m]? = some a) := ha
            clear hcs ha
            obtain ⟨a0, a1, a2, a3⟩ := a
            simp only at e1 e2 e3 e4
            have hsz : wo.heap.size < wr.heap.size := by have := HY.out.size; simp at this; omega
            have key : ∀ i v, (#[Value.int .i64 o, .int .i64 x, .int .i64 y, .int .i64 z] : Array Value)[i]? = some v → wr.cell? ⟨wo.heap.size, i, none⟩ = some v := fun i v hv => cell_block (by rw [HY.out.block _ (by omega)]; exact heap_alloc_new wo _) i v hv
            have f1 := key 0 _ rfl
            have f2 := key 1 _ rfl
            have f3 := key 2 _ rfl
            have f4 := key 3 _ rfl
            clear key
            have hbb : ∀ w2, Below (wr.heap.size + 1) (wr.alloc (.cells #[.int .i64 a0, .int .i64 a1, .int .i64 a2, .int .i64 a3] 42)) w2 → Below (wo.heap.size + 1) (wo.alloc (.cells #[.int .i64 o, .int .i64 x, .int .i64 y, .int .i64 z] 93)) w2 ∧ Below w.heap.size w w2 := fun w2 h2 =>
              ⟨(HY.out.alloc (by omega) _).trans (h2.mono (by omega)), (HZ.out.alloc HZ.out.size _).trans (h2.mono (by have := HZ.out.size; omega))⟩
            have HBB : Hid (∀ w2, Below (wr.heap.size + 1) (wr.alloc (.cells #[.int .i64 a0, .int .i64 a1, .int .i64 a2, .int .i64 a3] 42)) w2 → Below (wo.heap.size + 1) (wo.alloc (.cells #[.int .i64 o, .int .i64 x, .int .i64 y, .int .i64 z] 93)) w2 ∧ Below w.heap.size w w2) := hbb
            clear hbb
            by_cases hp : a0 = p
            · have hpb : (a0 == p) = true := by simp [hp]
              obtain ⟨r, hr⟩ : ∃ r, folB (o, x, y, z) (a0, a1, a2, a3) = r := ⟨_, rfl⟩
              have HR : Hid (folB (o, x, y, z) (a0, a1, a2, a3) = r) := hr
              have HF : Hid ((a0 == p && folB (o, x, y, z) (a0, a1, a2, a3)) = r) := by show _ = _; rw [hpb, hr]; rfl
              clear hp hr
              go_wp2_with fail
              refine (follows_calls (o, x, y, z) (a0, a1, a2, a3) _).mono ?_
              rintro e w' ⟨rfl, hb⟩
              rw [HR.out]
              have HV : Hid (Below (wo.heap.size + 1) (wo.alloc (.cells #[.int .i64 o, .int .i64 x, .int .i64 y, .int .i64 z] 93)) w' ∧ Below w.heap.size w w') := HBB.out w' (by simpa using hb)
              clear hb
              cases r
              · go_wp2
                go_roundg (gk - 1)
                case rel =>
                  refine ⟨m + 1, by omega, by go_num, ?_, HV.out.1⟩
                  intro t a ht hta
                  by_cases e : t = m
                  · subst e; rw [HGa.out] at hta; cases hta; exact HF.out
                  · exact HI.out t a (by omega) hta
                case measure => omega
              · go_wp2
                go_roundg (gO - 1)
                case rel =>
                  refine ⟨j + 1, by omega, by go_num, ?_, HV.out.2⟩
                  intro t q ht htq
                  by_cases e : t = j
                  · subst e; rw [HG.out] at htq; cases htq; exact any_good' HGa.out HF.out
                  · exact HA.out t q (by omega) htq
                case measure => omega
            · have hpb : (a0 == p) = false := by simp [hp]
              have HF : Hid ((a0 == p && folB (o, x, y, z) (a0, a1, a2, a3)) = false) := by show _ = _; rw [hpb]; rfl
              clear hp
              go_wp2
              go_roundg (gk - 1)
              case rel =>
                refine ⟨m + 1, by omega, by go_num, ?_, (HBB.out _ (Below.refl _ _)).1⟩
                intro t a ht hta
                by_cases e : t = m
                · subst e; rw [HGa.out] at hta; cases hta; exact HF.out
                · exact HI.out t a (by omega) hta
              case measure => omega
          · have HE : Hid ((ar.any fun a => a.1 == p && folB (o, x, y, z) a) = false) := any_bad' (fun t a ht => HI.out t a (by have := (List.getElem?_eq_some_iff.1 ht).1; rw [HA0.out.length] at this; omega) ht)
            go_wp2
            try rw [Exit.noGoto_ret]
            go_ret
            exact ⟨ret_bool (by rw [HB.out, all_bad' HG.out HE.out]; simp), HZ.out⟩
      · have hdlt : decide ((j : Int) < (n : Int)) = false := by simp; omega
        have HE : Hid ((l.all fun x => ar.any fun a => a.1 == p && folB x a) = true) := all_good' (fun m q hm => HA.out m q (by have := (List.getElem?_eq_some_iff.1 hm).1; rw [HN.out] at this; omega) hm)
        go_wp2
        try rw [Exit.noGoto_ret]
        go_ret
        exact ⟨ret_bool (by rw [HB.out, HE.out, HK.out]; rfl), HX.out⟩
  · have hd : (kd != 0) = true := by simp [hkd]
    have HK : Hid ((kd == 0) = false) := by show _ = _; simp [hkd]
    clear hkd
    go_enter Try.func49, Try.ntmps49
    go_wp2
    go_step3
    go_wp2
    try rw [Exit.noGoto_ret]
    go_ret
    exact ⟨ret_bool (by rw [HB.out, HK.out]; rfl), Below.refl _ _⟩
end Go.Proofs.Ytdbfcclmmpcijaa
